"""Points 52 to 54: failures, machines that are shut, and plans that survive."""

import itertools
import random
import unittest

from gangbooks.clustertext import read_cluster
from gangbooks.errors import BadEvent, NoChange, NotRunning, TooWide, Unknown
from gangbooks.failing import Frail, Survival, fail, failing_step, reopen, repair, shut, survives
from gangbooks.hours import basic_step, tick
from gangbooks.notes import Certificate, No, Yes, read_note, write_note
from gangbooks.packing import pack
from gangbooks.reserve import reserve
from gangbooks.spans import Span
from gangbooks.state import State
from tests.support import job, job_notes, refuse, state
from tests.worlds import CALM, random_book, random_cluster

CLUSTER = read_cluster(
    "resources core\nmachine m1 zone y has 4\nmachine m2 zone z has 4\nmachine m3 zone z has 2\n"
    "group g under - weight 1 floor 0\n"
    "template a group g rank 1 every 0 stage 1 of 2 for 2\n"
    "template b group g rank 1 every 2 stage 2 of 2 for 6 stage 1 of 1 for 1\n"
    "template c group g rank 9 every 1 stage 1 of 4 for 2\n"
    "template d group g rank 1 every 0 stage 6 of 1 for 9")
A, B, C, D = range(4)
FREE = "age first never free"


def firm(name, *plan, template=A, **others):
    return job(name, template, firm=True, plan=plan, **others)


class FailingTestCase(unittest.TestCase):
    def ask(self, call, before, *args):
        noted = before.note()
        after, deeds = call(before, *args)
        self.assertEqual(before.note(), noted)
        self.assertIsInstance(after, State)
        self.assertIsInstance(deeds, list)
        return after, deeds

    def refuse(self, kind, subject, call, before, *args):
        noted = before.note()
        refuse(self, kind, subject, call, before, *args)
        self.assertEqual(before.note(), noted)


class FailTest(FailingTestCase):
    def test_a_machine_without_jobs(self):
        after, deeds = self.ask(fail, state(CLUSTER, FREE, [firm("f", (0, 9, (0, 1, 0)))], hour=5, shut=(1,), windows=((0, 5, 6),)), "m1")
        self.assertEqual(deeds, [("fail", 0)])
        self.assertEqual((after.down, after.shut, after.windows, after.hour), ((0,), (1,), ((0, 5, 6),), 5))
        self.assertEqual(after["f"].plan, ((0, 9, (0, 1, 0)),))

    def test_down_is_ascending(self):
        now = state(CLUSTER, FREE)
        for name, down in (("m3", (2,)), ("m1", (0, 2)), ("m2", (0, 1, 2))):
            now, _ = self.ask(fail, now, name)
            self.assertEqual(now.down, down)

    def test_errors(self):
        self.refuse(Unknown, "x", fail, state(CLUSTER, FREE), "x")
        self.refuse(NoChange, "m2", fail, state(CLUSTER, FREE, down=(1,)), "m2")
        self.assertEqual(self.ask(fail, state(CLUSTER, FREE, shut=(1,)), "m2")[0].down, (1,))

    def test_jobs_on_the_machine_lose_work(self):
        jobs = [job("h", B, (1, 1, 0), done=3, ran=3, lost=1, evicted=1, began=2), job("i", A, (0, 0, 1), done=1), job("j", A, (1, 0, 0), done=1)]
        after, deeds = self.ask(fail, state(CLUSTER, FREE, jobs, hour=6), "m1")
        self.assertEqual(deeds, [("fail", 0), ("lost", "h", 1), ("lost", "j", 1), ("start", "h", (0, 2, 0))])
        notes = job_notes(after)
        self.assertEqual(notes["h"], ("h", B, 0, 2, 0, 2, (0, 2, 0), 0, (), 3, 2, 2))
        self.assertEqual(notes["i"][5:7], (1, (0, 0, 1)))
        self.assertEqual(notes["j"], ("j", A, 0, None, 0, 0, None, 0, (), 0, 1, 1))

    def test_a_firm_job_that_runs_there_becomes_loose(self):
        one = firm("f", (1, 9, (0, 1, 0)), template=B, place=(1, 1, 0), done=3, ran=3, began=3)
        after, deeds = self.ask(fail, state(CLUSTER, FREE, [one], hour=6, shut=(1, 2)), "m1")
        # No deed broken, and its plan is gone.
        self.assertEqual(deeds, [("fail", 0), ("lost", "f", 1)])
        self.assertEqual(job_notes(after)["f"], ("f", B, 0, 3, 0, 2, None, 0, (), 3, 1, 1))

    def test_plans_on_the_machine_move(self):
        jobs = [firm("f", (0, 9, (1, 0, 0))), firm("h", (0, 9, (0, 1, 0))), firm("i", (0, 9, (1, 0, 0)))]
        after, deeds = self.ask(fail, state(CLUSTER, FREE, jobs, hour=6), "m1")
        self.assertEqual(deeds, [("fail", 0), ("plan", "f", ((0, 9, (0, 0, 1)),)), ("plan", "i", ((0, 9, (0, 1, 0)),))])
        self.assertEqual([one.plan for one in after], [((0, 9, (0, 0, 1)),), ((0, 9, (0, 1, 0)),), ((0, 9, (0, 1, 0)),)])

    def test_plans_stay_if_none_is_on_the_machine(self):
        # The place of f on m3, which is down, stays: no plan is on m1.
        jobs = [firm("f", (0, 9, (0, 0, 1))), firm("h", (0, 9, (0, 1, 0)))]
        after, deeds = self.ask(fail, state(CLUSTER, FREE, jobs, hour=6, down=(2,)), "m1")
        self.assertEqual(deeds, [("fail", 0)])
        self.assertEqual([one.plan for one in after], [one.plan for one in jobs])

    def test_jobs_that_are_not_kept_become_loose(self):
        jobs = [firm("f", (0, 9, (1, 0, 0)), template=C), firm("h", (0, 10, (0, 1, 0)), template=C), firm("i", (0, 9, (0, 0, 1)))]
        after, deeds = self.ask(fail, state(CLUSTER, FREE, jobs, hour=6), "m1")
        # f is older, so it gets the room of h; h waits and starts as a loose job.
        self.assertEqual(deeds, [("fail", 0), ("broken", "h"), ("plan", "f", ((0, 9, (0, 1, 0)),)), ("start", "h", (0, 1, 0))])
        self.assertEqual(job_notes(after)["h"], ("h", C, 0, 6, 0, 0, (0, 1, 0), 0, (), 0, 0, 0))
        self.assertEqual(after["i"].plan, ((0, 9, (0, 0, 1)),))

    def test_a_job_that_is_not_kept_leaves_room_for_younger_ones(self):
        jobs = [firm("f", (0, 9, (1, 1, 0)), template=B), firm("h", (0, 9, (1, 0, 1)), template=B), firm("i", (0, 9, (0, 1, 0)))]
        after, deeds = self.ask(fail, state(CLUSTER, "age first never free", jobs, hour=9 - 3), "m1")
        self.assertEqual(deeds, [("fail", 0), ("broken", "h"), ("plan", "f", ((0, 9, (0, 1, 1)),))])
        self.assertEqual(after["i"].plan, ((0, 9, (0, 1, 0)),))

    def test_all_are_broken(self):
        jobs = [firm("f", (0, 9, (1, 0, 0))), firm("h", (0, 9, (0, 1, 0)))]
        after, deeds = self.ask(fail, state(CLUSTER, FREE, jobs, hour=6, windows=((1, 9, 12), (2, 9, 12))), "m1")
        self.assertEqual(deeds[:3], [("fail", 0), ("broken", "f"), ("broken", "h")])
        self.assertEqual([(one.firm, one.plan) for one in after], [(False, ())] * 2)

    def test_a_broken_job_that_runs_keeps_its_place(self):
        # f runs on m2 and m3; its last stage of 1 had a plan on m1, but windows leave no other room.
        one = firm("f", (1, 9, (1, 0, 0)), template=B, place=(0, 1, 1), done=3, began=3)
        windows = ((1, 9, 12), (2, 9, 12))
        after, deeds = self.ask(fail, state(CLUSTER, FREE, [one], hour=6, windows=windows), "m1")
        self.assertEqual(deeds, [("fail", 0), ("broken", "f")])
        self.assertEqual(job_notes(after)["f"], ("f", B, 0, 3, 0, 3, (0, 1, 1), 0, (), 0, 0, 0))

    def test_its_place_counts_for_younger_ones_and_loose_places_do_not(self):
        plan = (1, 12, (1, 0, 0))
        runs = firm("f", plan, template=B, place=(0, 1, 1), done=0, began=6)
        windows = ((1, 12, 15), (2, 12, 15))
        young = firm("h", (0, 8, (1, 0, 0)), template=C)
        after, deeds = self.ask(fail, state(CLUSTER, FREE, [runs, young], hour=6, windows=windows), "m1")
        self.assertEqual(deeds, [("fail", 0), ("broken", "f"), ("broken", "h")])
        # A loose job in the same place does not count, and is thrown out by the settling.
        loose = job("f", B, (0, 1, 1), began=6)
        after, deeds = self.ask(fail, state(CLUSTER, FREE, [loose, young], hour=6, windows=windows), "m1")
        self.assertEqual(deeds, [("fail", 0), ("plan", "h", ((0, 8, (0, 1, 0)),)), ("out", "f", 0)])

    def test_a_firm_job_that_is_lost_does_not_count(self):
        jobs = [firm("f", (1, 12, (0, 1, 0)), template=B, place=(1, 1, 0), began=6), firm("h", (0, 8, (1, 0, 0)), template=C)]
        after, deeds = self.ask(fail, state(CLUSTER, FREE, jobs, hour=6), "m1")
        self.assertEqual(deeds, [("fail", 0), ("lost", "f", 0), ("plan", "h", ((0, 8, (0, 1, 0)),))])

    def test_a_machine_with_jobs_and_plans(self):
        jobs = [job("j", A, (1, 0, 0), done=1), firm("f", (0, 7, (1, 0, 0)))]
        after, deeds = self.ask(fail, state(CLUSTER, FREE, jobs, hour=6), "m1")
        self.assertEqual(deeds, [("fail", 0), ("lost", "j", 1), ("plan", "f", ((0, 7, (0, 0, 1)),)), ("start", "j", (0, 1, 0))])

    def test_new_places_avoid_shut_machines(self):
        jobs = [firm("f", (0, 9, (1, 0, 0))), firm("h", (0, 9, (0, 0, 1)))]
        after, deeds = self.ask(fail, state(CLUSTER, FREE, jobs, hour=6, shut=(2,)), "m1")
        self.assertEqual(deeds, [("fail", 0), ("plan", "f", ((0, 9, (0, 1, 0)),))])

    def test_too_wide_is_passed_on(self):
        jobs = [firm(f"f{at}", (0, 10 + 9 * at, (4, 2, 0)), template=D) for at in range(8)]
        before = state(CLUSTER, FREE, jobs, hour=6)
        # Beside the failed machine there is one row for each: m2 and m3 hold just 6.
        after, deeds = self.ask(fail, before, "m1")
        self.assertEqual(len(deeds), 9)
        made = read_cluster("resources core\nmachine m1 zone y has 6\nmachine m2 zone z has 6\nmachine m3 zone z has 6\n"
                            "group g under - weight 1 floor 0\ntemplate d group g rank 1 every 0 stage 6 of 1 for 9")
        before = state(made, FREE, [firm(f"f{at}", (0, 10 + 9 * at, (6, 0, 0))) for at in range(5)], hour=6)
        self.refuse(TooWide, 4096, fail, before, "m1")

    def test_a_failure_throws_clashing_jobs_out_in_the_settling(self):
        # The plan of f moves to m2, where j runs until then.
        jobs = [firm("f", (0, 7, (1, 0, 0)), template=C), job("j", C, (0, 1, 0), began=6, done=0)]
        after, deeds = self.ask(fail, state(CLUSTER, FREE, jobs, hour=6), "m1")
        self.assertEqual(deeds, [("fail", 0), ("plan", "f", ((0, 7, (0, 1, 0)),)), ("out", "j", 0)])


class RepairShutReopenTest(FailingTestCase):
    def test_repair(self):
        before = state(CLUSTER, FREE, [job("j", C), firm("f", (0, 9, (0, 1, 0)))], hour=3, down=(0, 2), shut=(2,))
        after, deeds = self.ask(repair, before, "m1")
        # In the settling m1 is the first machine again.
        self.assertEqual((after.down, after.shut, deeds), ((2,), (2,), [("repair", 0), ("start", "j", (1, 0, 0))]))
        self.assertEqual(after["f"].plan, ((0, 9, (0, 1, 0)),))
        self.refuse(Unknown, "x", repair, before, "x")
        self.refuse(NoChange, "m2", repair, before, "m2")

    def test_a_job_starts_on_a_machine_that_is_repaired(self):
        before = state(CLUSTER, FREE, [job("j", C)], down=(0, 1))
        self.assertEqual(self.ask(repair, before, "m2")[1], [("repair", 1), ("start", "j", (0, 1, 0))])

    def test_shut(self):
        before = state(CLUSTER, FREE, [job("h", A, (1, 0, 0)), firm("f", (0, 9, (1, 0, 0)))], hour=3, down=(0,), shut=(1,))
        after, deeds = self.ask(shut, before, "m1")
        self.assertEqual((after.down, after.shut, deeds), ((0,), (0, 1), [("shut", 0)]))
        # Jobs that run there stay, and plans stay.
        self.assertEqual([(one.place, one.plan) for one in after], [((1, 0, 0), ()), (None, ((0, 9, (1, 0, 0)),))])
        self.refuse(Unknown, "x", shut, before, "x")
        self.refuse(NoChange, "m2", shut, before, "m2")

    def test_no_loose_job_starts_on_a_machine_that_is_shut(self):
        before = state(CLUSTER, FREE, [job("j", A)], shut=(0,))
        after, deeds = self.ask(shut, before, "m2")
        self.assertEqual(deeds, [("shut", 1), ("start", "j", (0, 0, 1))])

    def test_a_firm_job_starts_on_a_machine_that_is_shut(self):
        now, _ = reserve(state(CLUSTER, FREE), "r", "a", 1)
        now, _ = self.ask(shut, now, "m1")
        now, deeds = self.ask(tick, now)
        self.assertEqual(deeds, [("start", "r", (1, 0, 0))])

    def test_reopen(self):
        before = state(CLUSTER, FREE, [job("j", C)], shut=(0, 1, 2), down=(0,))
        after, deeds = self.ask(reopen, before, "m2")
        self.assertEqual((after.shut, after.down, deeds), ((0, 2), (0,), [("reopen", 1), ("start", "j", (0, 1, 0))]))
        after, deeds = self.ask(reopen, before, "m1")
        self.assertEqual((after.shut, after.down, deeds), ((1, 2), (0,), [("reopen", 0)]))
        self.refuse(Unknown, "x", reopen, before, "x")
        self.refuse(NoChange, "m1", reopen, state(CLUSTER, FREE, down=(0,)), "m1")


class StepTest(FailingTestCase):
    def test_events(self):
        before = state(CLUSTER, FREE, [job("i", A, (1, 0, 0)), job("j", C)], down=(1,))
        for event, wanted in ((("fail", "m1"), fail(before, "m1")), (("repair", "m2"), repair(before, "m2"))):
            after, deeds = self.ask(failing_step, before, event)
            self.assertEqual((after.note(), deeds), (wanted[0].note(), wanted[1]))
        for event in (("come", "k", "b"), ("drop", "i"), ("early", "i"), ("tick",), ("policy", "rank", "loose", "any", "strict")):
            after, deeds = self.ask(failing_step, before, event)
            wanted = basic_step(before, event)
            self.assertEqual((after.note(), deeds), (wanted[0].note(), wanted[1]))

    def test_errors(self):
        before = state(CLUSTER, FREE, [job("j", C)], down=(0, 1))
        self.refuse(NoChange, "m1", failing_step, before, ("fail", "m1"))
        self.refuse(NoChange, "m3", failing_step, before, ("repair", "m3"))
        self.refuse(NotRunning, "j", failing_step, before, ("early", "j"))
        for event in (("shut", "m1"), ("reopen", "m1"), ("drain", "m1"), ("reserve", "r", "a", 3), ("close", "m1", 0, 1), ("Fail", "m1"), ("",)):
            self.refuse(BadEvent, event, failing_step, before, event)


class SurvivesTest(unittest.TestCase):
    def ask(self, before, failures):
        noted = before.note()
        found = survives(before, failures)
        self.assertEqual(before.note(), noted)
        return found

    def test_no_failures(self):
        found = self.ask(state(CLUSTER, FREE, [firm("f", (0, 9, (1, 0, 0)))]), 0)
        self.assertIsInstance(found, Survival)
        self.assertEqual(found.rows, ())

    def test_one_failure(self):
        jobs = [firm("f", (0, 9, (1, 0, 0))), firm("h", (0, 9, (0, 1, 0)))]
        found = self.ask(state(CLUSTER, FREE, jobs, hour=6), 1)
        self.assertEqual(found.rows, (((0,), ((0, 0, 1), (0, 1, 0))), ((1,), ((1, 0, 0), (0, 0, 1))), ((2,), ((1, 0, 0), (0, 1, 0)))))

    def test_several_failures_by_size(self):
        found = self.ask(state(CLUSTER, FREE, [firm("f", (0, 9, (1, 0, 0)))], hour=6), 2)
        self.assertIsInstance(found, Survival)
        self.assertEqual([row[0] for row in found.rows], [(0,), (1,), (2,), (0, 1), (0, 2), (1, 2)])
        self.assertEqual(found.rows[3], ((0, 1), ((0, 0, 1),)))
        found = self.ask(state(CLUSTER, FREE, [firm("f", (0, 9, (1, 0, 0)))], hour=6), 3)
        self.assertIsInstance(found, Frail)
        self.assertEqual((found.machines, found.node), ((0, 1, 2), ("short", ((0, "barred"), (0, "barred"), (0, "barred")))))
        # More failures than machines.
        self.assertEqual(self.ask(state(CLUSTER, FREE, [firm("f", (0, 9, (1, 0, 0)))], hour=6), 9).machines, (0, 1, 2))
        self.assertEqual(len(self.ask(state(CLUSTER, FREE, hour=6), 9).rows), 7)

    def test_the_first_set_that_fails(self):
        jobs = [firm("f", (0, 9, (1, 0, 0)), template=C), firm("h", (0, 9, (0, 1, 0)), template=C)]
        found = self.ask(state(CLUSTER, FREE, jobs, hour=6), 2)
        self.assertIsInstance(found, Frail)
        self.assertEqual(found.machines, (0,))
        self.assertEqual(found.node, ("cases", ((0, 1, 0), ("short", ((0, "barred"), (0, 0), (0, 0))))))

    def test_machines_that_are_down_are_in_no_set_and_barred(self):
        jobs = [firm("f", (0, 9, (1, 0, 0)))]
        found = self.ask(state(CLUSTER, FREE, jobs, hour=6, down=(2,)), 2)
        self.assertEqual((found.machines, found.node), ((0, 1), ("short", ((0, "barred"), (0, "barred"), (0, "barred")))))
        found = self.ask(state(CLUSTER, FREE, jobs, hour=6, down=(2,)), 1)
        self.assertEqual(found.rows, (((0,), ((0, 1, 0),)), ((1,), ((1, 0, 0),))))

    def test_jobs_that_run_on_the_set_are_left_out(self):
        one = firm("f", (1, 9, (1, 0, 0)), template=B, place=(1, 1, 0), done=3)
        found = self.ask(state(CLUSTER, FREE, [one], hour=6), 1)
        self.assertEqual(found.rows, (((0,), ()), ((1,), ()), ((2,), ((1, 0, 0),))))

    def test_windows_and_firm_jobs_that_run_count_and_loose_ones_do_not(self):
        plan = firm("h", (0, 7, (1, 0, 0)), template=C)
        for jobs, windows, survive in (([], (), True), ([firm("f", place=(0, 1, 0))], (), False), ([job("j", A, (0, 1, 0))], (), True),
                                       ([], ((1, 7, 8),), False)):
            found = self.ask(state(CLUSTER, FREE, [*jobs, plan], hour=6, windows=windows), 1)
            self.assertEqual(isinstance(found, Survival), survive)
            if not survive:
                self.assertEqual(found.machines, (0,))

    def test_plans_on_shut_machines_may_stay(self):
        found = self.ask(state(CLUSTER, FREE, [firm("f", (0, 9, (1, 0, 0)))], hour=6, shut=(0, 1)), 1)
        self.assertEqual(found.rows, (((0,), ((0, 0, 1),)), ((1,), ((1, 0, 0),)), ((2,), ((1, 0, 0),))))
        found = self.ask(state(CLUSTER, FREE, [firm("f", (0, 9, (1, 0, 0)))], hour=6, shut=(0, 1, 2)), 1)
        self.assertEqual((found.machines, found.node), ((0,), ("short", ((0, "barred"), (0, "barred"), (0, "barred")))))

    def test_too_wide_is_passed_on(self):
        made = read_cluster("resources core\nmachine m1 zone y has 6\nmachine m2 zone z has 6\nmachine m3 zone z has 6\n"
                            "group g under - weight 1 floor 0\ntemplate d group g rank 1 every 0 stage 6 of 1 for 9")
        before = state(made, FREE, [firm(f"f{at}", (0, 10 + 9 * at, (6, 0, 0))) for at in range(5)], hour=6)
        refuse(self, TooWide, 4096, survives, before, 1)
        self.assertEqual(survives(before, 0).rows, ())


class RandomTest(unittest.TestCase):
    """Point 54: what survives() says is what the events do."""

    def plain_survives(self, before, failures):
        """The first set for which the plans cannot be planned anew, with the rows before it."""
        up = [at for at in range(len(before.cluster.machines)) if at not in before.down]
        rows = []
        for size in range(1, failures + 1):
            for machines in itertools.combinations(up, size):
                jobs = [one for one in before if one.firm and not (one.place and any(one.place[at] for at in machines))]
                takes, items = State(before.cluster, before.policy, before.hour, (), (), before.windows, [
                    job(one.name, one.template, one.place, stage=one.stage, done=one.done) for one in jobs]).takes(), []
                for one in jobs:
                    for stage, start, counts in one.plan:
                        gang = (one.template, stage)
                        items.append((gang, Span(start, start + before.cluster.stage_of(gang).hours), counts))
                found = pack(takes, items, barred=(*before.down, *machines), shut=before.shut)
                if not found.holds():
                    return ("frail", machines, found.node)
                rows.append((machines, found.places))
        return ("survival", tuple(rows))

    def check_events(self, before, found, failures):
        names = [machine.name for machine in before.cluster.machines]
        up = [name for at, name in enumerate(names) if at not in before.down]
        if found.holds():
            for size in range(1, failures + 1):
                for row in itertools.permutations(up, size):
                    self.assertFalse(self.breaks(before, row))
        else:
            for row in itertools.permutations([names[at] for at in found.machines]):
                self.assertTrue(self.breaks(before, row))

    def breaks(self, now, names):
        told = []
        for name in names:
            now, deeds = fail(now, name)
            told += deeds
        return any(deed[0] == "broken" for deed in told)

    def test_random_states(self):
        met = {"survival": 0, "frail": 0}
        words = ("reserve",) * 8 + CALM + ("fail", "repair")
        for seed in range(90):
            dice = random.Random(seed)
            for _, _, after, _ in list(random_book(dice, 25, words, random_cluster(dice, True)))[-2:]:
                failures = dice.randrange(1, 3)
                try:
                    found = survives(after, failures)
                    self.assertEqual(found.note(), self.plain_survives(after, failures))
                    uses_shut = any(row[2][at] for one in after for row in one.plan for at in after.shut)
                    if failures == 1 or not uses_shut:
                        self.check_events(after, found, failures)
                        met[found.note()[0]] += any(one.plan for one in after)
                except TooWide:
                    continue
        self.assertGreater(min(met.values()), 5)


class CertificateTest(unittest.TestCase):
    def test_notes(self):
        jobs = [firm("f", (0, 9, (1, 0, 0)))]
        found = survives(state(CLUSTER, FREE, jobs, hour=6), 1)
        self.assertEqual(found.note(), ("survival", (((0,), ((0, 0, 1),)), ((1,), ((1, 0, 0),)), ((2,), ((1, 0, 0),)))))
        self.assertEqual(read_note(write_note(found.note())), found.note())
        found = survives(state(CLUSTER, FREE, jobs, hour=6), 3)
        self.assertEqual(found.note(), ("frail", (0, 1, 2), ("short", ((0, "barred"), (0, "barred"), (0, "barred")))))
        self.assertEqual(read_note(write_note(found.note())), found.note())

    def test_kinds(self):
        for kind, word, other, made in ((Survival, Yes, No, Survival(())), (Frail, No, Yes, Frail((), ()))):
            self.assertTrue(issubclass(kind, Certificate) and issubclass(kind, word) and not issubclass(kind, other))
            self.assertIs(made.holds(), word is Yes)

    def test_arguments_are_stored_as_they_are(self):
        rows = (((3,), "x"),)
        self.assertIs(Survival(rows).rows, rows)
        made = Frail((5, -1), ("y",))
        self.assertEqual((made.machines, made.node, made.note()), ((5, -1), ("y",), ("frail", (5, -1), ("y",))))


if __name__ == "__main__":
    unittest.main()
