"""Points 42 to 45: the events of loose jobs, and the hours that pass."""

import unittest

from gangbooks.clustertext import read_cluster
from gangbooks.errors import BadEvent, BadName, BadPolicy, Full, NotRunning, Taken, Unknown
from gangbooks.hours import basic_step, change, come, drop, early, tick
from gangbooks.policy import Policy
from gangbooks.state import State
from tests.support import job, job_notes, refuse, state

CLUSTER = read_cluster(
    "resources core\nmachine m1 zone y has 4\nmachine m2 zone z has 2\n"
    "group g under - weight 1 floor 0\n"
    "template a group g rank 1 every 0 stage 1 of 2 for 2\n"
    "template b group g rank 5 every 2 stage 1 of 2 for 3 stage 2 of 1 for 1 stage 1 of 4 for 2\n"
    "template c group g rank 9 every 1 stage 1 of 4 for 6")
A, B, C = range(3)
FREE = "age first never free"


class EventTest(unittest.TestCase):
    def perform(self, call, before, *args):
        """Perform an event and look at kinds and at the old state; return the new state and the deeds."""
        noted = before.note()
        found = call(before, *args)
        self.assertIsInstance(found, tuple)
        after, deeds = found
        self.assertIsInstance(after, State)
        self.assertIsInstance(deeds, list)
        self.assertEqual(before.note(), noted)
        deeds.append("one more")
        self.assertEqual(call(before, *args)[0].note(), after.note())
        self.assertEqual(call(before, *args)[1], deeds[:-1])
        return after, deeds[:-1]

    def refuse(self, kind, subject, call, before, *args):
        noted = before.note()
        refuse(self, kind, subject, call, before, *args)
        self.assertEqual(before.note(), noted)


class ComeTest(EventTest):
    def test_a_job_that_starts_and_one_that_waits(self):
        empty = State.empty(CLUSTER, Policy.read(FREE))
        first, deeds = self.perform(come, empty, "j1", "a")
        self.assertEqual(deeds, [("start", "j1", (1, 0))])
        self.assertEqual(first.note()[6], (("j1", A, 0, 0, 0, 0, (1, 0), 0, (), 0, 0, 0),))
        second, deeds = self.perform(come, first, "j0", "c")
        self.assertEqual(deeds, [])
        self.assertEqual(second.note()[6][1:], (("j0", C, 0, None, 0, 0, None, 0, (), 0, 0, 0),))

    def test_the_youngest_comes_last_at_the_present_hour(self):
        before = state(CLUSTER, FREE, [job("z", C), job("y", B)], hour=9)
        after, _ = self.perform(come, before, "a", "b")
        self.assertEqual([(one.name, one.came) for one in after], [("z", 0), ("y", 0), ("a", 9)])
        self.assertEqual(after.hour, 9)

    def test_the_settling_follows(self):
        before = state(CLUSTER, "rank first any free", [job("j", A, (1, 0), done=1, began=0)])
        after, deeds = self.perform(come, before, "k", "c")
        self.assertEqual(deeds, [("out", "j", 1), ("start", "k", (1, 0)), ("start", "j", (0, 1))])
        self.assertEqual(job_notes(after)["j"], ("j", A, 0, 0, 0, 0, (0, 1), 0, (), 0, 1, 1))

    def test_bad_names(self):
        for name in ("", "J", "1a", "abcdefghi", "a b", "a-b", "j_1"):
            self.refuse(BadName, name, come, state(CLUSTER, FREE), name, "a")

    def test_names_that_are_taken(self):
        before = state(CLUSTER, FREE, [job("j"), job("f", A, (1, 0), firm=True)])
        self.refuse(Taken, "j", come, before, "j", "a")
        self.refuse(Taken, "f", come, before, "f", "a")
        after, _ = self.perform(come, before, "a", "a")
        self.assertIn("a", after)

    def test_templates_that_do_not_exist(self):
        for template in ("x", "", "A", "g", "m1"):
            self.refuse(Unknown, template, come, state(CLUSTER, FREE), "j", template)

    def test_the_twelfth_and_the_thirteenth_job(self):
        before = state(CLUSTER, FREE, [job(f"j{at}", C) for at in range(11)])
        twelve, _ = self.perform(come, before, "k", "c")
        self.assertEqual(len(twelve), 12)
        self.refuse(Full, 12, come, twelve, "l", "c")

    def test_the_order_of_the_errors(self):
        full = state(CLUSTER, FREE, [job(f"j{at}", C) for at in range(12)])
        self.refuse(BadName, "J", come, full, "J", "x")
        self.refuse(Taken, "j3", come, full, "j3", "x")
        self.refuse(Unknown, "x", come, full, "k", "x")
        self.refuse(Full, 12, come, full, "k", "a")

    def test_a_name_may_be_used_again(self):
        before = state(CLUSTER, FREE, [job("j", A, (1, 0), came=2, began=3, ran=5)], hour=8)
        gone, _ = self.perform(drop, before, "j")
        again, deeds = self.perform(come, gone, "j", "b")
        self.assertEqual(deeds, [("start", "j", (1, 0))])
        self.assertEqual(again.note()[6], (("j", B, 8, 8, 0, 0, (1, 0), 0, (), 0, 0, 0),))


class DropTest(EventTest):
    def test_the_deed_and_the_settling(self):
        before = state(CLUSTER, FREE, [job("i", C, (1, 0), ran=7, lost=3, evicted=2), job("j", A, (0, 1)), job("k", A)], hour=4)
        after, deeds = self.perform(drop, before, "i")
        self.assertEqual(deeds, [("drop", "i", 7, 3, 2), ("start", "k", (1, 0))])
        self.assertEqual([one.name for one in after], ["j", "k"])

    def test_jobs_that_wait_and_firm_jobs(self):
        before = state(CLUSTER, FREE, [job("j", C), job("f", B, firm=True, plan=((0, 3, (1, 0)), (1, 6, (2, 0)), (2, 7, (1, 0))))])
        after, deeds = self.perform(drop, before, "f")
        self.assertEqual((deeds, [one.name for one in after]), ([("drop", "f", 0, 0, 0), ("start", "j", (1, 0))], ["j"]))
        after, deeds = self.perform(drop, before, "j")
        self.assertEqual((deeds, [one.name for one in after]), ([("drop", "j", 0, 0, 0)], ["f"]))

    def test_unknown(self):
        for name in ("x", "", "J"):
            self.refuse(Unknown, name, drop, state(CLUSTER, FREE, [job("j")]), name)


class EarlyTest(EventTest):
    def test_the_last_stage(self):
        before = state(CLUSTER, FREE, [job("i", B, (1, 0), stage=2, done=1, ran=5, lost=1, evicted=1), job("k", A, (0, 1)), job("j", A)])
        after, deeds = self.perform(early, before, "i")
        self.assertEqual(deeds, [("end", "i", 5, 1, 1), ("start", "j", (1, 0))])
        self.assertEqual([one.name for one in after], ["k", "j"])

    def test_another_stage(self):
        before = state(CLUSTER, FREE, [job("i", B, (1, 0), done=2, ran=6, lost=4, evicted=2, began=1, came=1), job("j", C, stage=0)], hour=7)
        after, deeds = self.perform(early, before, "i")
        self.assertEqual(deeds, [("stage", "i", 1), ("start", "i", (2, 0))])
        self.assertEqual(job_notes(after)["i"], ("i", B, 1, 1, 1, 0, (2, 0), 0, (), 6, 4, 2))

    def test_a_loose_job_may_have_to_wait(self):
        before = state(CLUSTER, "rank first never free", [job("i", B, (1, 0), stage=1), job("k", C)], hour=7)
        after, deeds = self.perform(early, before, "i")
        self.assertEqual(deeds, [("stage", "i", 2), ("start", "k", (1, 0))])
        self.assertEqual(job_notes(after)["i"], ("i", B, 0, None, 2, 0, None, 0, (), 0, 0, 0))

    def test_a_firm_job_waits_for_its_plan(self):
        firm = job("f", B, (1, 0), firm=True, began=5, ran=1, done=1, plan=((1, 8, (0, 2)), (2, 9, (1, 0))))
        after, deeds = self.perform(early, state(CLUSTER, FREE, [firm], hour=6), "f")
        self.assertEqual(deeds, [("stage", "f", 1)])
        self.assertEqual(job_notes(after)["f"], ("f", B, 0, 5, 1, 0, None, 1, ((1, 8, (0, 2)), (2, 9, (1, 0))), 1, 0, 0))
        after, deeds = self.perform(tick, after)
        self.assertEqual(deeds, [])
        after, deeds = self.perform(tick, after)
        self.assertEqual(deeds, [("start", "f", (0, 2))])
        self.assertEqual(job_notes(after)["f"], ("f", B, 0, 5, 1, 0, (0, 2), 1, ((2, 9, (1, 0)),), 1, 0, 0))

    def test_errors(self):
        before = state(CLUSTER, FREE, [job("i", C, (1, 0)), job("j", C)])
        self.refuse(Unknown, "x", early, before, "x")
        self.refuse(NotRunning, "j", early, before, "j")


class TickTest(EventTest):
    def test_work(self):
        before = state(CLUSTER, FREE, [job("i", C, (1, 0), done=1, ran=4, lost=3, began=2), job("j", C), job("k", A, (0, 1))], hour=7)
        after, deeds = self.perform(tick, before)
        self.assertEqual((after.hour, deeds), (8, []))
        self.assertEqual(after.note()[6], (
            ("i", C, 0, 2, 0, 2, (1, 0), 0, (), 5, 3, 0), ("j", C, 0, None, 0, 0, None, 0, (), 0, 0, 0),
            ("k", A, 0, None, 0, 1, (0, 1), 0, (), 1, 0, 0)))

    def test_ends_in_the_order_of_the_jobs(self):
        before = state(CLUSTER, FREE, [job("k", A, (0, 1), done=1, ran=1), job("i", A, (1, 0), done=1, ran=9, lost=8, evicted=2), job("j", C)])
        after, deeds = self.perform(tick, before)
        self.assertEqual(deeds, [("end", "k", 2, 0, 0), ("end", "i", 10, 8, 2), ("start", "j", (1, 0))])
        self.assertEqual(after.note()[6], (("j", C, 0, 1, 0, 0, (1, 0), 0, (), 0, 0, 0),))

    def test_stages_that_end_one_after_another(self):
        now, deeds = come(State.empty(CLUSTER, Policy.read(FREE)), "i", "b")
        told = [deeds]
        for _ in range(6):
            now, deeds = self.perform(tick, now)
            told.append(deeds)
        self.assertEqual(told, [
            [("start", "i", (1, 0))], [], [], [("stage", "i", 1), ("start", "i", (2, 0))], [("stage", "i", 2), ("start", "i", (1, 0))],
            [], [("end", "i", 6, 0, 0)]])
        self.assertEqual((len(now), now.hour), (0, 6))

    def test_windows(self):
        windows = ((0, 3, 7), (0, 7, 9), (1, 2, 7), (1, 8, 9))
        after, deeds = self.perform(tick, state(CLUSTER, FREE, hour=6, windows=windows))
        self.assertEqual(deeds, [("back", 0), ("back", 1), ("away", 0)])
        self.assertEqual(after.windows, ((0, 7, 9), (1, 8, 9)))
        after, deeds = self.perform(tick, after)
        self.assertEqual((deeds, after.windows), ([("away", 1)], ((0, 7, 9), (1, 8, 9))))
        after, deeds = self.perform(tick, after)
        self.assertEqual((deeds, after.windows), ([("back", 0), ("back", 1)], ()))

    def test_a_machine_that_comes_back_is_used_at_once(self):
        after, deeds = self.perform(tick, state(CLUSTER, FREE, [job("j", C)], hour=6, windows=((0, 6, 7),)))
        self.assertEqual(deeds, [("back", 0), ("start", "j", (1, 0))])

    def test_firm_jobs_start(self):
        jobs = [job("j", C), job("f", B, firm=True, plan=((0, 8, (1, 0)), (1, 11, (0, 2)), (2, 12, (1, 0)))),
                job("e", A, firm=True, plan=((0, 8, (0, 1)),)), job("d", A, firm=True, plan=((0, 20, (0, 1)),))]
        after, deeds = self.perform(tick, state(CLUSTER, FREE, jobs, hour=7))
        self.assertEqual(deeds, [("start", "f", (1, 0)), ("start", "e", (0, 1))])
        notes = job_notes(after)
        self.assertEqual(notes["f"], ("f", B, 0, 8, 0, 0, (1, 0), 1, ((1, 11, (0, 2)), (2, 12, (1, 0))), 0, 0, 0))
        self.assertEqual(notes["e"], ("e", A, 0, 8, 0, 0, (0, 1), 1, (), 0, 0, 0))
        self.assertEqual(notes["d"], ("d", A, 0, None, 0, 0, None, 1, ((0, 20, (0, 1)),), 0, 0, 0))

    def test_began_is_the_first_start_of_all_stages(self):
        firm = job("f", B, (1, 0), firm=True, began=4, done=2, ran=2, plan=((1, 8, (0, 2)), (2, 9, (1, 0))))
        after, deeds = self.perform(tick, state(CLUSTER, FREE, [firm], hour=7))
        self.assertEqual(deeds, [("stage", "f", 1), ("start", "f", (0, 2))])
        self.assertEqual(job_notes(after)["f"], ("f", B, 0, 4, 1, 0, (0, 2), 1, ((2, 9, (1, 0)),), 3, 0, 0))
        after, deeds = self.perform(tick, after)
        self.assertEqual(deeds, [("stage", "f", 2), ("start", "f", (1, 0))])
        after, deeds = self.perform(tick, after)
        after, deeds = self.perform(tick, after)
        self.assertEqual((deeds, len(after)), ([("end", "f", 6, 0, 0)], 0))

    def test_the_order_of_the_deeds(self):
        jobs = [job("f", A, firm=True, plan=((0, 8, (0, 1)),)), job("i", A, (1, 0), done=1), job("j", C)]
        after, deeds = self.perform(tick, state(CLUSTER, FREE, jobs, hour=7, windows=((0, 8, 9), (1, 6, 8))))
        self.assertEqual(deeds, [("end", "i", 1, 0, 0), ("back", 1), ("away", 0), ("start", "f", (0, 1))])
        after, deeds = self.perform(tick, after)
        self.assertEqual(deeds, [("back", 0), ("start", "j", (1, 0))])

    def test_a_firm_job_that_starts_on_a_machine_that_is_shut(self):
        after, deeds = self.perform(tick, state(CLUSTER, FREE, [job("f", A, firm=True, plan=((0, 8, (0, 1)),))], hour=7, shut=(1,)))
        self.assertEqual(deeds, [("start", "f", (0, 1))])


class ChangeTest(EventTest):
    def test_the_policy_and_the_settling(self):
        before = state(CLUSTER, FREE, [job("j", A, (1, 0)), job("k", C)])
        policy = Policy("rank", "first", "any", "free")
        after, deeds = self.perform(change, before, policy)
        self.assertEqual((after.policy, after.note()[2]), (policy, ("rank", "first", "any", "free")))
        self.assertEqual(deeds, [("out", "j", 0), ("start", "k", (1, 0)), ("start", "j", (0, 1))])
        self.assertEqual(before.policy.text(), FREE)

    def test_the_same_policy(self):
        after, deeds = self.perform(change, state(CLUSTER, FREE), Policy.read(FREE))
        self.assertEqual((after.policy.text(), deeds), (FREE, []))


class StepTest(EventTest):
    def test_events(self):
        before = state(CLUSTER, FREE, [job("i", A, (1, 0)), job("j", C)])
        for event, call, args in ((("come", "k", "b"), come, ("k", "b")), (("drop", "i"), drop, ("i",)), (("early", "i"), early, ("i",)),
                                  (("tick",), tick, ()), (("policy", "rank", "loose", "any", "strict"), change, (Policy("rank", "loose", "any", "strict"),))):
            after, deeds = self.perform(basic_step, before, event)
            wanted = call(before, *args)
            self.assertEqual((after.note(), deeds), (wanted[0].note(), wanted[1]))

    def test_errors_of_events(self):
        before = state(CLUSTER, FREE, [job("j", C)])
        self.refuse(BadName, "J", basic_step, before, ("come", "J", "a"))
        self.refuse(Taken, "j", basic_step, before, ("come", "j", "a"))
        self.refuse(Unknown, "x", basic_step, before, ("come", "k", "x"))
        self.refuse(Unknown, "x", basic_step, before, ("drop", "x"))
        self.refuse(NotRunning, "j", basic_step, before, ("early", "j"))
        self.refuse(BadPolicy, "x", basic_step, before, ("policy", "x", "first", "y", "free"))
        self.refuse(BadPolicy, "y", basic_step, before, ("policy", "age", "first", "y", "free"))

    def test_other_words(self):
        for event in (("fail", "m1"), ("repair", "m1"), ("reserve", "r", "a", 3), ("close", "m1", 0, 1), ("cancel", "m1", 1), ("shut", "m1"),
                      ("reopen", "m1"), ("drain", "m1"), ("Come", "j", "a"), ("",), ("change", "x"), ("undo",)):
            self.refuse(BadEvent, event, basic_step, state(CLUSTER, FREE), event)


if __name__ == "__main__":
    unittest.main()
