"""What several tests use: a way to look at errors, and small clusters."""

from gangbooks.cluster import Cluster
from gangbooks.errors import GangError
from gangbooks.policy import Policy
from gangbooks.state import Job, State


def refuse(test, kind, subject, call, *args, **named):
    """Check that the call raises exactly this class with this subject, and return the error."""
    with test.assertRaises(GangError) as caught:
        call(*args, **named)
    error = caught.exception
    test.assertIs(type(error), kind)
    test.assertEqual(error.subject, subject)
    test.assertIs(type(error.subject), type(subject))
    return error


def rows(resources=None, machines=None, groups=None, templates=None):
    """The four lists of a small valid cluster, or others in their place."""
    return (
        ["core", "mem"] if resources is None else resources,
        [("m1", "z1", ("fast",), (4, 8)), ("m2", "z2", (), (2, 2))] if machines is None else machines,
        [("top", "", 1, (3, 3), None), ("leaf", "top", 2, (1, 1), (5, 5))] if groups is None else groups,
        [("a", "leaf", 3, 2, ((2, (1, 4), 3), (1, (1, 0), 1)), ())] if templates is None else templates,
    )


def cluster(amounts, templates, zones=None, labels=None):
    """A cluster with a machine m1, m2 .. for each row of amounts, and one top group g.

    A template is a pair of its stages and its wishes; their names are a, b ..
    """
    many = len(amounts[0])
    zones = zones or ["z"] * len(amounts)
    labels = labels or [()] * len(amounts)
    return Cluster(
        ["r1", "r2", "r3"][:many],
        [(f"m{at + 1}", zones[at], labels[at], row) for at, row in enumerate(amounts)],
        [("g", "", 1, (0,) * many, None)],
        [("abcdefgh"[at], "g", 0, 0, stages, wishes) for at, (stages, wishes) in enumerate(templates)])


def job(name, template=0, place=None, **others):
    """A job with these attributes; without any it is loose and waits."""
    made = Job(name, template)
    made.place = place
    for attribute, value in others.items():
        setattr(made, attribute, value)
    return made


def state(made, words, jobs=(), hour=0, down=(), shut=(), windows=()):
    """A state with the policy of these words."""
    return State(made, Policy.read(words), hour, down, shut, windows, jobs)


def job_notes(made):
    """The notes of the jobs of a state by their names."""
    return {one[0]: one for one in made.note()[6]}
