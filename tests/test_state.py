"""Points 30 to 34: jobs and states."""

import unittest

from gangbooks.cluster import Cluster
from gangbooks.errors import Unknown
from gangbooks.notes import read_note
from gangbooks.policy import Policy
from gangbooks.state import Job, State
from gangbooks.takes import Takes
from tests.support import refuse

MANY = Cluster(
    ["core", "mem"],
    [("m1", "z", (), (10, 5)), ("m2", "z", (), (4, 6))],
    [("g", "", 1, (0, 0), None)],
    [("a", "g", 0, 2, ((3, (1, 1), 5), (1, (2, 0), 3)), ()), ("b", "g", 0, 0, ((1, (1, 2), 4), (2, (0, 1), 6), (1, (3, 0), 2)), ())])
POLICY = Policy("age", "tight", "owed", "hold")


def job(name, template=0, place=None, firm=False, plan=(), **others):
    """A job with these attributes; a new one is loose and waits."""
    made = Job(name, template, **others)
    made.place = place
    made.firm = firm
    made.plan = plan
    return made


def state(hour=10, windows=(), jobs=(), down=(), shut=()):
    return State(MANY, POLICY, hour, down, shut, windows, jobs)


class JobTest(unittest.TestCase):
    def values(self, made):
        return (made.name, made.template, made.came, made.began, made.stage, made.done, made.place, made.firm, made.plan,
                made.ran, made.lost, made.evicted)

    def test_a_loose_job_that_waits(self):
        self.assertEqual(self.values(Job("j", 3)), ("j", 3, 0, None, 0, 0, None, False, (), 0, 0, 0))
        self.assertIs(Job("j", 3).firm, False)
        self.assertEqual(self.values(Job("k", 0, 7)), ("k", 0, 7, None, 0, 0, None, False, (), 0, 0, 0))
        self.assertEqual(self.values(Job("k", 1, came=8, stage=2, done=4)), ("k", 1, 8, None, 2, 4, None, False, (), 0, 0, 0))

    def test_nothing_is_checked(self):
        self.assertEqual(self.values(Job("No Name", 99, -5, stage=9, done=100))[:6], ("No Name", 99, -5, None, 9, 100))


class EmptyTest(unittest.TestCase):
    def test_attributes(self):
        empty = State.empty(MANY, POLICY)
        self.assertIs(type(empty), State)
        self.assertIs(empty.cluster, MANY)
        self.assertIs(empty.policy, POLICY)
        self.assertEqual((empty.hour, empty.down, empty.shut, empty.windows, empty.jobs), (0, (), (), (), ()))
        self.assertEqual(empty.hour, 0)
        for part in (empty.down, empty.shut, empty.windows, empty.jobs):
            self.assertIsInstance(part, tuple)

    def test_no_jobs(self):
        empty = State.empty(MANY, POLICY)
        self.assertEqual((len(empty), list(empty), "j" in empty), (0, [], False))
        refuse(self, Unknown, "j", lambda: empty["j"])
        refuse(self, Unknown, "j", empty.left, "j")

    def test_no_takes(self):
        empty = State.empty(MANY, POLICY)
        for takes in (empty.takes(), empty.base()):
            self.assertIsInstance(takes, Takes)
            self.assertEqual(list(takes), [])
            self.assertIs(takes.cluster, MANY)

    def test_note(self):
        empty = State.empty(MANY, POLICY)
        self.assertEqual(empty.note(), ("state", 0, ("age", "tight", "owed", "hold"), (), (), (), ()))
        self.assertEqual(empty.text(), "(state 0 (age tight owed hold) () () () ())")


class JobsTest(unittest.TestCase):
    def setUp(self):
        self.jobs = [job("j1"), job("j3", 1, stage=1, done=4), job("j2", place=(1, 2), done=1)]
        self.made = state(jobs=self.jobs)

    def test_by_name(self):
        for one in self.jobs:
            self.assertIs(self.made[one.name], one)
            self.assertIs(one.name in self.made, True)
        for name in ("j4", "", "J1", "j"):
            self.assertIs(name in self.made, False)
            refuse(self, Unknown, name, lambda: self.made[name])

    def test_length_and_iteration(self):
        self.assertEqual(len(self.made), 3)
        self.assertEqual(list(self.made), self.jobs)
        self.assertEqual([one.name for one in self.made], ["j1", "j3", "j2"])
        self.assertEqual(self.made.jobs, tuple(self.jobs))

    def test_hours_left(self):
        self.assertEqual([self.made.left(name) for name in ("j1", "j3", "j2")], [5, 2, 4])
        refuse(self, Unknown, "x", self.made.left, "x")

    def test_what_is_passed_in_is_copied(self):
        self.jobs.clear()
        self.assertEqual(len(self.made), 3)


class TakesTest(unittest.TestCase):
    def check(self, made, takes, base=None):
        self.assertEqual(list(made.takes()), takes)
        self.assertEqual(list(made.base()), takes if base is None else base)
        self.assertIs(made.takes().cluster, MANY)

    def test_windows(self):
        # One has started, one starts now, one is later.
        made = state(windows=((0, 8, 12), (0, 20, 21), (1, 10, 13)))
        self.check(made, [(0, 10, 12, (10, 5), -1), (0, 20, 21, (10, 5), -1), (1, 10, 13, (4, 6), -1)])

    def test_places(self):
        loose, firm = job("j1", place=(1, 2), done=2), job("j2", 1, place=(0, 1), firm=True, done=3)
        self.check(state(jobs=[loose, firm]),
                   [(0, 10, 13, (1, 1), 0), (1, 10, 13, (2, 2), 0), (1, 10, 11, (1, 2), 1)], [(1, 10, 11, (1, 2), 1)])
        self.check(state(jobs=[job("j1", place=(1, 0), stage=1)]), [(0, 10, 13, (2, 0), 0)], [])

    def test_waiting_jobs_take_nothing(self):
        self.check(state(jobs=[job("j1"), job("j2", firm=True)]), [])

    def test_plans(self):
        waits = job("j1", 1, firm=True, plan=((0, 12, (1, 0)), (1, 16, (1, 1)), (2, 22, (0, 1))))
        rows = [(0, 12, 16, (1, 2), 1), (0, 16, 22, (0, 1), 1), (1, 16, 22, (0, 1), 1), (1, 22, 24, (3, 0), 1)]
        self.check(state(jobs=[waits]), rows)
        runs = job("j2", 1, place=(0, 1), firm=True, done=1, plan=((1, 13, (0, 2)),))
        self.check(state(jobs=[runs]), [(1, 10, 13, (1, 2), 1), (1, 13, 19, (0, 2), 1)])

    def test_order(self):
        made = state(windows=((1, 30, 40),), jobs=[
            job("j3", 1, firm=True, plan=((0, 12, (1, 0)),)), job("j1", place=(3, 0)), job("j2", 1, place=(1, 0), firm=True)])
        self.check(made, [(1, 30, 40, (4, 6), -1), (0, 12, 16, (1, 2), 1), (0, 10, 15, (3, 3), 0), (0, 10, 14, (1, 2), 1)],
                   [(1, 30, 40, (4, 6), -1), (0, 12, 16, (1, 2), 1), (0, 10, 14, (1, 2), 1)])

    def test_machines_that_are_down_or_shut_take_nothing(self):
        self.check(state(down=(0,), shut=(0, 1)), [])


class NoteTest(unittest.TestCase):
    def setUp(self):
        runs = job("j1", 1, place=(0, 1), firm=True, came=3, done=2, plan=((1, 12, (1, 1)), (2, 18, (0, 1))))
        runs.began = 8
        runs.ran = 2
        waits = job("old", came=4, stage=1, done=0)
        waits.began = 5
        waits.ran, waits.lost, waits.evicted = 7, 1, 2
        self.made = state(windows=((0, 8, 12), (1, 20, 21)), jobs=[runs, waits, job("new", 1, came=10)], down=(0,), shut=(0, 1))

    def test_note(self):
        self.assertEqual(self.made.note(), (
            "state", 10, ("age", "tight", "owed", "hold"), (0,), (0, 1), ((0, 8, 12), (1, 20, 21)), (
                ("j1", 1, 3, 8, 0, 2, (0, 1), 1, ((1, 12, (1, 1)), (2, 18, (0, 1))), 2, 0, 0),
                ("old", 0, 4, 5, 1, 0, None, 0, (), 7, 1, 2),
                ("new", 1, 10, None, 0, 0, None, 0, (), 0, 0, 0))))
        self.assertEqual([type(one[7]) for one in self.made.note()[6]], [int] * 3)

    def test_text(self):
        self.assertEqual(self.made.text(), (
            "(state 10 (age tight owed hold) (0) (0 1) ((0 8 12) (1 20 21)) ("
            "(j1 1 3 8 0 2 (0 1) 1 ((1 12 (1 1)) (2 18 (0 1))) 2 0 0) "
            "(old 0 4 5 1 0 - 0 () 7 1 2) "
            "(new 1 10 - 0 0 - 0 () 0 0 0)))"))
        self.assertEqual(read_note(self.made.text()), self.made.note())

    def test_nothing_is_changed(self):
        before = self.made.note()
        self.made.takes() + [(0, 0, 1, (1, 1), 0)]
        self.made.base(), self.made.left("j1"), self.made.text(), list(self.made), len(self.made)
        refuse(self, Unknown, "x", lambda: self.made["x"])
        refuse(self, Unknown, "x", self.made.left, "x")
        self.assertEqual(self.made.note(), before)


if __name__ == "__main__":
    unittest.main()
