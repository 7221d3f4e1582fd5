"""Point 66: shapes of states, and the states of shapes."""

import random
import unittest

from gangbooks.clustertext import read_cluster
from gangbooks.errors import GangError
from gangbooks.events import full_step
from gangbooks.notes import read_note, write_note
from gangbooks.shapes import shape, state_of
from gangbooks.state import State
from tests.support import job, state
from tests.worlds import ROUGH, random_book, random_event

CLUSTER = read_cluster(
    "resources core\nmachine m1 zone y has 4\nmachine m2 zone z has 2\n"
    "group g under - weight 1 floor 0\n"
    "template a group g rank 1 every 0 stage 1 of 2 for 2\n"
    "template b group g rank 5 every 2 stage 1 of 2 for 3 stage 2 of 1 for 1")
WORDS = ("rank", "first", "any", "free")
RICH = state(
    CLUSTER, " ".join(WORDS), hour=7, down=(1,), shut=(0, 1), windows=((0, 3, 9), (0, 9, 12), (1, 7, 8), (1, 8, 11)),
    jobs=[
        job("zz", 1, (1, 0), came=1, began=2, stage=0, done=1, ran=5, lost=3, evicted=2),
        job("f", 1, (0, 1), firm=True, began=6, done=1, plan=((1, 9, (2, 0)),)),
        job("g", 1, firm=True, plan=((0, 8, (1, 0)), (1, 11, (1, 1)))),
        job("i", 1, came=4, began=4, stage=1, lost=1)])
SHAPE = (
    "shape", WORDS, (1,), (0, 1), ((0, 0, 2), (0, 2, 5), (1, 0, 1), (1, 1, 4)),
    ((1, 0, 1, (1, 0), 0, ()), (1, 0, 1, (0, 1), 1, ((1, 2, (2, 0)),)),
     (1, 0, 0, None, 1, ((0, 1, (1, 0)), (1, 4, (1, 1)))), (1, 1, 0, None, 0, ())))


class ShapeTest(unittest.TestCase):
    def test_an_empty_state(self):
        empty = state(CLUSTER, " ".join(WORDS))
        self.assertEqual(shape(empty), ("shape", WORDS, (), (), (), ()))
        self.assertEqual(shape(state(CLUSTER, " ".join(WORDS), hour=99)), shape(empty))

    def test_all_parts(self):
        noted = RICH.note()
        found = shape(RICH)
        self.assertEqual(found, SHAPE)
        self.assertEqual(read_note(write_note(found)), found)
        self.assertEqual(RICH.note(), noted)

    def test_what_is_left_out(self):
        plain = shape(state(CLUSTER, " ".join(WORDS), [job("a", 1, (1, 0), done=1)]))
        for other in (job("b", 1, (1, 0), done=1), job("a", 1, (1, 0), done=1, came=9), job("a", 1, (1, 0), done=1, began=3),
                      job("a", 1, (1, 0), done=1, ran=1), job("a", 1, (1, 0), done=1, lost=1), job("a", 1, (1, 0), done=1, evicted=1)):
            self.assertEqual(shape(state(CLUSTER, " ".join(WORDS), [other], hour=50)), plain)

    def test_what_is_not_left_out(self):
        base = dict(jobs=[job("a", 1, (1, 0), done=1), job("b", 1)], hour=5)
        plain = shape(state(CLUSTER, " ".join(WORDS), **base))
        others = [
            dict(base, down=(0,)), dict(base, shut=(0,)), dict(base, windows=((0, 4, 6),)), dict(base, jobs=base["jobs"][::-1]),
            dict(base, jobs=base["jobs"][:1])]
        for one in (job("a", 0, (1, 0), done=1), job("a", 1, (0, 1), done=1), job("a", 1, (1, 0), done=0), job("a", 1, None, done=1),
                    job("a", 1, (1, 0), done=1, stage=1), job("a", 1, (1, 0), done=1, firm=True),
                    job("a", 1, (1, 0), done=1, firm=True, plan=((1, 7, (1, 0)),))):
            others.append(dict(base, jobs=[one, base["jobs"][1]]))
        found = [shape(state(CLUSTER, " ".join(WORDS), **other)) for other in others]
        found.append(shape(state(CLUSTER, "rank first any hold", **base)))
        for one in found:
            self.assertNotEqual(one, plain)

    def test_windows_are_ascending_with_starts_that_have_passed_as_0(self):
        made = state(CLUSTER, " ".join(WORDS), hour=10, windows=((0, 2, 13), (0, 20, 21), (1, 10, 11), (1, 11, 12)))
        self.assertEqual(shape(made)[4], ((0, 0, 3), (0, 10, 11), (1, 0, 1), (1, 1, 2)))


class StateOfTest(unittest.TestCase):
    def test_all_parts(self):
        made = state_of(CLUSTER, SHAPE)
        self.assertIs(type(made), State)
        self.assertIs(made.cluster, CLUSTER)
        self.assertEqual(made.note(), ("state", 0, WORDS, (1,), (0, 1), SHAPE[4], (
            ("x1", 1, 0, 0, 0, 1, (1, 0), 0, (), 0, 0, 0),
            ("x2", 1, 0, 0, 0, 1, (0, 1), 1, ((1, 2, (2, 0)),), 0, 0, 0),
            ("x3", 1, 0, None, 0, 0, None, 1, ((0, 1, (1, 0)), (1, 4, (1, 1))), 0, 0, 0),
            ("x4", 1, 0, None, 1, 0, None, 0, (), 0, 0, 0))))
        self.assertIs(made["x2"].firm, True)
        self.assertIs(made["x1"].firm, False)
        self.assertEqual(shape(made), SHAPE)

    def test_an_empty_shape(self):
        made = state_of(CLUSTER, ("shape", WORDS, (), (), (), ()))
        self.assertEqual(made.note(), ("state", 0, WORDS, (), (), (), ()))

    def test_a_shape_that_was_read(self):
        self.assertEqual(state_of(CLUSTER, read_note(write_note(SHAPE))).note(), state_of(CLUSTER, SHAPE).note())


def told(items, names, hour):
    """Deeds with jobs by their index, hours from the present one, and without what shapes leave out."""
    found = []
    for deed in items:
        if deed[0] in ("end", "drop"):
            found.append((deed[0], names.index(deed[1])))
        elif deed[0] == "plan":
            found.append((deed[0], names.index(deed[1]), tuple((at, start - hour, counts) for at, start, counts in deed[2])))
        elif isinstance(deed[1], str):
            found.append((deed[0], names.index(deed[1])) + deed[2:])
        else:
            found.append(deed)
    return found


class FutureTest(unittest.TestCase):
    def perform(self, before, event):
        """The deeds of an event without names, and the new shape; or the class of the error."""
        names = [one.name for one in before] + [event[1] if event[0] in ("come", "reserve") else ""]
        try:
            after, deeds = full_step(before, event)
        except GangError as error:
            return type(error)
        return told(deeds, names, before.hour), shape(after)

    def translated(self, event, before, other):
        """The event for another state of the same shape."""
        names = [one.name for one in before]
        if event[0] in ("drop", "early") and event[1] in names:
            return event[0], [one.name for one in other][names.index(event[1])]
        shift = other.hour - before.hour
        if event[0] == "come":
            return "come", "new", event[2]
        if event[0] == "reserve":
            return "reserve", "new", event[2], event[3] + shift
        if event[0] == "close":
            return event[:2] + (event[2] + shift, event[3])
        if event[0] == "cancel":
            return event[:2] + (event[2] + shift,)
        return event

    def test_the_same_event_on_a_state_and_on_the_state_of_its_shape(self):
        dice = random.Random(66)
        refused = 0
        words = set()
        for _ in range(60):
            for _, _, before, _ in random_book(dice, 25, ROUGH):
                other = state_of(before.cluster, shape(before))
                self.assertEqual(shape(other), shape(before))
                event = random_event(dice, before, ROUGH)
                found = self.perform(before, event)
                self.assertEqual(self.perform(other, self.translated(event, before, other)), found)
                refused += isinstance(found, type)
                words.add(event[0])
        self.assertGreater(refused, 50)
        self.assertEqual(len(words), 13)


if __name__ == "__main__":
    unittest.main()
