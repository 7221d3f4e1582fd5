"""Points 49 to 51: plans that are planned anew, windows, and what reservations promise."""

import random
import unittest

from gangbooks.clustertext import read_cluster
from gangbooks.errors import BadHour, Busy, NoRoom, NoWindow, TooWide, Unknown
from gangbooks.hours import come, tick
from gangbooks.packing import CaseTree
from gangbooks.policy import Policy
from gangbooks.reserve import reserve
from gangbooks.state import State
from gangbooks.windows import cancel, close
from tests.support import job, job_notes, refuse, state
from tests.worlds import CALM, random_book

CLUSTER = read_cluster(
    "resources core\nmachine m1 zone y has 4\nmachine m2 zone z has 4\nmachine m3 zone z has 2\n"
    "group g under - weight 1 floor 0\n"
    "template a group g rank 1 every 0 stage 1 of 2 for 2\n"
    "template b group g rank 1 every 0 stage 2 of 2 for 3 stage 1 of 1 for 1\n"
    "template c group g rank 1 every 0 stage 1 of 4 for 2\n"
    "template d group g rank 1 every 0 stage 6 of 1 for 9")
A, B, C, D = range(4)
FREE = "age first never free"


def firm(name, *plan, template=A, **others):
    return job(name, template, firm=True, plan=plan, **others)


class WindowTestCase(unittest.TestCase):
    def ask(self, call, before, *args):
        noted = before.note()
        after, deeds = call(before, *args)
        self.assertEqual(before.note(), noted)
        self.assertIsInstance(deeds, list)
        return after, deeds

    def refuse(self, kind, subject, call, before, *args):
        noted = before.note()
        refuse(self, kind, subject, call, before, *args)
        self.assertEqual(before.note(), noted)


class CloseTest(WindowTestCase):
    def test_a_window_that_starts_now(self):
        after, deeds = self.ask(close, state(CLUSTER, FREE, hour=5), "m2", 5, 3)
        self.assertEqual((deeds, after.windows), ([("away", 1)], ((1, 5, 8),)))
        self.assertEqual(after.hour, 5)

    def test_a_later_window(self):
        after, deeds = self.ask(close, state(CLUSTER, FREE, hour=5), "m2", 6, 48)
        self.assertEqual((deeds, after.windows), ([], ((1, 6, 54),)))

    def test_windows_are_ascending(self):
        now = state(CLUSTER, FREE, hour=5)
        for machine, start, hours in (("m2", 9, 2), ("m1", 7, 1), ("m2", 6, 3), ("m1", 6, 1), ("m3", 5, 1)):
            now, _ = self.ask(close, now, machine, start, hours)
        self.assertEqual(now.windows, ((0, 6, 7), (0, 7, 8), (1, 6, 9), (1, 9, 11), (2, 5, 6)))

    def test_the_settling_follows(self):
        # j waits for m1 or m2, which are both used; nothing becomes free by a window.
        after, deeds = self.ask(close, state(CLUSTER, FREE, [job("j", A)]), "m1", 0, 3)
        self.assertEqual(deeds, [("away", 0), ("start", "j", (0, 1, 0))])

    def test_hours(self):
        before = state(CLUSTER, FREE, hour=10)
        for start in (10, 210):
            self.assertEqual(self.ask(close, before, "m1", start, 1)[0].windows, ((0, start, start + 1),))
        for start in (9, 211, -1):
            self.refuse(BadHour, start, close, before, "m1", start, 1)
        for hours in (0, 49, -3):
            self.refuse(BadHour, hours, close, before, "m1", 10, hours)
        self.refuse(BadHour, 211, close, before, "m1", 211, 49)

    def test_unknown(self):
        for name in ("x", "", "M1", "a"):
            self.refuse(Unknown, name, close, state(CLUSTER, FREE), name, -1, 0)

    def test_jobs_that_run(self):
        jobs = [job("j", A, (1, 0, 0), done=1), firm("f", (1, 9, (0, 1, 0)), template=B, place=(1, 1, 0)), job("k", A, (1, 0, 0)), job("l", A)]
        before = state(CLUSTER, FREE, jobs, hour=6)
        # j runs in hour 6, f to hour 8, k to hour 7.
        for start, hours, names in ((6, 1, ("j", "f", "k")), (7, 1, ("f", "k")), (8, 3, ("f",))):
            self.refuse(Busy, names, close, before, "m1", start, hours)
        self.refuse(Busy, ("f",), close, before, "m2", 6, 1)
        self.assertEqual(self.ask(close, before, "m1", 9, 1)[0].windows, ((0, 9, 10),))
        self.assertEqual(self.ask(close, before, "m3", 6, 9)[0].windows, ((2, 6, 15),))

    def test_other_windows(self):
        before = state(CLUSTER, FREE, hour=6, windows=((0, 8, 10), (1, 6, 9)))
        for start, hours in ((6, 3), (7, 2), (8, 1), (8, 2), (9, 1), (9, 5), (6, 20)):
            self.refuse(Busy, (), close, before, "m1", start, hours)
        # Windows that touch have no common hour.
        self.assertEqual(self.ask(close, before, "m1", 6, 2)[0].windows, ((0, 6, 8), (0, 8, 10), (1, 6, 9)))
        self.assertEqual(self.ask(close, before, "m1", 10, 2)[0].windows, ((0, 8, 10), (0, 10, 12), (1, 6, 9)))
        self.assertEqual(self.ask(close, before, "m3", 8, 2)[0].windows[2], (2, 8, 10))

    def test_jobs_come_before_windows(self):
        before = state(CLUSTER, FREE, [job("j", A, (1, 0, 0))], hour=6, windows=((0, 8, 10),))
        self.refuse(Busy, ("j",), close, before, "m1", 7, 5)
        self.refuse(Busy, (), close, before, "m1", 8, 5)

    def test_planned_stages_are_planned_anew(self):
        jobs = [firm("f", (0, 8, (1, 0, 0))), firm("h", (0, 7, (1, 0, 0))), firm("i", (0, 20, (1, 0, 0)))]
        before = state(CLUSTER, FREE, jobs, hour=6)
        after, deeds = self.ask(close, before, "m1", 9, 1)
        # f must leave; the rows of counts are tried in ascending order.
        self.assertEqual(deeds, [("plan", "f", ((0, 8, (0, 0, 1)),))])
        self.assertEqual([one.plan for one in after], [((0, 8, (0, 0, 1)),), ((0, 7, (1, 0, 0)),), ((0, 20, (1, 0, 0)),)])
        after, deeds = self.ask(close, before, "m1", 8, 1)
        self.assertEqual(deeds, [("plan", "f", ((0, 8, (0, 0, 1)),)), ("plan", "h", ((0, 7, (0, 1, 0)),))])

    def test_all_stages_of_a_plan_are_told(self):
        one = firm("f", (0, 8, (1, 1, 0)), (1, 11, (1, 0, 0)), template=B)
        after, deeds = self.ask(close, state(CLUSTER, FREE, [one], hour=6), "m2", 10, 1)
        self.assertEqual(deeds, [("plan", "f", ((0, 8, (1, 0, 1)), (1, 11, (1, 0, 0))))])
        self.assertEqual(job_notes(after)["f"], ("f", B, 0, None, 0, 0, None, 1, ((0, 8, (1, 0, 1)), (1, 11, (1, 0, 0))), 0, 0, 0))

    def test_away_comes_first(self):
        one = firm("f", (0, 7, (1, 0, 0)))
        after, deeds = self.ask(close, state(CLUSTER, FREE, [one], hour=6), "m1", 6, 2)
        self.assertEqual(deeds, [("away", 0), ("plan", "f", ((0, 7, (0, 0, 1)),))])

    def test_plans_stay_if_none_is_on_the_machine_in_the_window(self):
        # The plan of h is on m1, but in other hours; that of f clashes with nothing new.
        jobs = [firm("f", (0, 8, (0, 1, 0))), firm("h", (0, 10, (1, 0, 0)))]
        after, deeds = self.ask(close, state(CLUSTER, FREE, jobs, hour=6), "m1", 8, 2)
        self.assertEqual((deeds, [one.plan for one in after]), ([], [one.plan for one in jobs]))
        after, deeds = self.ask(close, state(CLUSTER, FREE, jobs, hour=6, shut=(0, 1)), "m1", 8, 2)
        self.assertEqual((deeds, [one.plan for one in after]), ([], [one.plan for one in jobs]))

    def test_plans_stay_even_if_one_could_not_be_kept(self):
        # f is planned on m3, which is down; h is on m1, but behind the window.
        jobs = [firm("f", (0, 8, (0, 0, 1))), firm("h", (0, 10, (1, 0, 0)))]
        after, deeds = self.ask(close, state(CLUSTER, FREE, jobs, hour=6, down=(2,)), "m1", 8, 2)
        self.assertEqual((deeds, [one.plan for one in after]), ([], [one.plan for one in jobs]))
        after, deeds = self.ask(close, state(CLUSTER, FREE, jobs, hour=6, down=(2,)), "m1", 9, 2)
        self.assertEqual(deeds, [("plan", "f", ((0, 8, (0, 1, 0)),)), ("plan", "h", ((0, 10, (0, 1, 0)),))])

    def test_plans_on_shut_machines_keep_their_places_if_they_can(self):
        jobs = [firm("f", (0, 8, (1, 0, 0))), firm("h", (0, 8, (0, 1, 0)))]
        after, deeds = self.ask(close, state(CLUSTER, FREE, jobs, hour=6, shut=(1,)), "m1", 8, 2)
        self.assertEqual(deeds, [("plan", "f", ((0, 8, (0, 0, 1)),))])
        # With m3 shut as well f has no new place.
        before = state(CLUSTER, FREE, jobs, hour=6, shut=(1, 2))
        with self.assertRaises(NoRoom) as caught:
            self.ask(close, before, "m1", 8, 2)
        self.assertIsInstance(caught.exception.subject, CaseTree)
        self.assertEqual(caught.exception.subject.note(), ("tree", ("short", ((0, 0), (0, "barred"), (0, "barred")))))

    def test_machines_that_are_down_are_barred(self):
        jobs = [firm("f", (0, 8, (1, 0, 0)))]
        after, deeds = self.ask(close, state(CLUSTER, FREE, jobs, hour=6, down=(2,)), "m1", 8, 2)
        self.assertEqual(deeds, [("plan", "f", ((0, 8, (0, 1, 0)),))])

    def test_windows_and_jobs_that_run_count_loose_ones_too(self):
        loose, runs = job("j", C, (0, 1, 0)), firm("k", place=(0, 0, 1))
        for jobs, windows, wanted in (([loose, runs], (), None), ([loose], (), (0, 0, 1)), ([runs], (), (0, 1, 0)), ([loose], ((2, 9, 12),), None)):
            before = state(CLUSTER, FREE, [*jobs, firm("f", (0, 8, (1, 0, 0)))], hour=7, windows=windows)
            if wanted is None:
                with self.assertRaises(NoRoom):
                    self.ask(close, before, "m1", 9, 1)
            else:
                self.assertEqual(self.ask(close, before, "m1", 9, 1)[1], [("plan", "f", ((0, 8, wanted),))])

    def test_no_room(self):
        jobs = [firm("f", (0, 8, (1, 0, 0)), template=C), firm("h", (0, 8, (0, 1, 0)), template=C)]
        before = state(CLUSTER, FREE, jobs, hour=6)
        noted = before.note()
        with self.assertRaises(NoRoom) as caught:
            close(before, "m1", 9, 1)
        tree = caught.exception.subject
        self.assertIsInstance(tree, CaseTree)
        # f takes the place of h, which has none then.
        self.assertEqual(tree.node, ("cases", ((0, 1, 0), ("short", ((0, 0), (0, 0), (0, 0))))))
        self.assertEqual(before.note(), noted)

    def test_too_wide_comes_in_the_place_of_no_room(self):
        jobs = [firm(f"f{at}", (0, 10 + 9 * at, (4, 2, 0)), template=D) for at in range(5)]
        before = state(CLUSTER, FREE, [job("j", A, (1, 0, 0)), *jobs], hour=6)
        self.refuse(TooWide, 4096, close, before, "m2", 10, 1)
        self.refuse(Busy, ("j",), close, before, "m1", 6, 20)
        self.assertEqual(self.ask(close, before, "m3", 10, 1)[1], [])


class CancelTest(WindowTestCase):
    def test_a_window_that_has_started(self):
        before = state(CLUSTER, FREE, [job("j", C), job("k", C), job("l", C)], hour=6, windows=((0, 4, 8), (0, 8, 9), (1, 6, 8)))
        after, deeds = self.ask(cancel, before, "m1", 8)
        self.assertEqual((deeds, after.windows), ([("back", 0), ("start", "j", (1, 0, 0))], ((0, 8, 9), (1, 6, 8))))
        after, deeds = self.ask(cancel, before, "m2", 8)
        self.assertEqual((deeds, after.windows), ([("back", 1), ("start", "j", (0, 1, 0))], ((0, 4, 8), (0, 8, 9))))

    def test_a_later_window(self):
        before = state(CLUSTER, FREE, hour=5, windows=((0, 4, 6), (0, 6, 9), (2, 7, 9)))
        after, deeds = self.ask(cancel, before, "m1", 9)
        self.assertEqual((deeds, after.windows), ([], ((0, 4, 6), (2, 7, 9))))
        after, deeds = self.ask(cancel, before, "m3", 9)
        self.assertEqual((deeds, after.windows), ([], ((0, 4, 6), (0, 6, 9))))

    def test_plans_do_not_change(self):
        jobs = [firm("f", (0, 8, (0, 0, 1)))]
        after, deeds = self.ask(cancel, state(CLUSTER, FREE, jobs, hour=5, windows=((0, 7, 9),)), "m1", 9)
        self.assertEqual((deeds, after["f"].plan), ([], ((0, 8, (0, 0, 1)),)))

    def test_errors(self):
        before = state(CLUSTER, FREE, hour=5, windows=((0, 4, 6), (1, 6, 9)))
        self.refuse(Unknown, "x", cancel, before, "x", 6)
        for machine, end in (("m1", 4), ("m1", 9), ("m2", 6), ("m3", 6), ("m1", 0)):
            self.refuse(NoWindow, machine, cancel, before, machine, end)


class PromiseTest(unittest.TestCase):
    """Point 51: in books without failures reservations start at their hours, and firm jobs are never thrown out."""

    def test_random_books(self):
        met = {"started": 0, "out": 0, "plan": 0, "move": 0}
        for seed in range(150):
            asked = {}
            for _, event, after, deeds in random_book(random.Random(seed), 40, ("reserve",) * 3 + CALM):
                if event[0] == "reserve":
                    asked[event[1]] = event[3]
                for deed in deeds:
                    self.assertNotIn(deed[0], ("lost", "broken"))
                    if deed[0] == "out":
                        self.assertNotIn(deed[1], asked)
                    if deed[0] in met:
                        met[deed[0]] += 1
                    if deed[0] in ("drop", "end"):
                        asked.pop(deed[1], None)
                for name, hour in asked.items():
                    self.assertIs(after[name].firm, True)
                    self.assertEqual(after[name].began, hour if after.hour >= hour else None)
                    met["started"] += after.hour == hour
        self.assertGreater(min(met.values()), 3)

    def test_windows_and_reservations_with_loose_jobs(self):
        now = State.empty(CLUSTER, Policy.read("rank first any free"))
        now, _ = come(now, "j", "c")
        now, _ = reserve(now, "r", "c", 2)
        self.assertEqual(now["r"].plan, ((0, 2, (0, 1, 0)),) if now["j"].place == (0, 1, 0) else ((0, 2, (1, 0, 0)),))
        now, deeds = close(now, "m1", 2, 4)
        self.assertEqual(deeds, [("plan", "r", ((0, 2, (0, 1, 0)),))])
        now, deeds = tick(now)
        now, deeds = tick(now)
        self.assertEqual(deeds, [("end", "j", 2, 0, 0), ("away", 0), ("start", "r", (0, 1, 0))])


if __name__ == "__main__":
    unittest.main()
