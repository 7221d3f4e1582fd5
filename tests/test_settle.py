"""Points 31 and 38 to 41: settlings."""

import random
import unittest

from gangbooks.clustertext import read_cluster
from gangbooks.notes import Certificate, No, Yes, read_note, write_note
from gangbooks.settle import Settlement, settle
from gangbooks.state import Job, State
from gangbooks.usage import owed, used_by
from tests.plain import plain_settle
from tests.support import job, job_notes, state
from tests.worlds import CALM, POLICIES, ROUGH, random_book

HEAD = "resources core\nmachine m1 zone y has 4\nmachine m2 zone z has 2 labels x\n"
# a and b are equal but for their ranks, c is long and large, d is for m2 alone.
PLAIN = read_cluster(
    HEAD + "group g under - weight 1 floor 0\ngroup h under - weight 1 floor 3\n"
    "template a group g rank 1 every 0 stage 1 of 2 for 3\n"
    "template b group g rank 5 every 2 stage 1 of 2 for 4\n"
    "template c group h rank 3 every 1 stage 1 of 3 for 6 stage 2 of 1 for 2\n"
    "template d group g rank 2 every 0 stage 1 of 1 for 9 wishes needs:x\n"
    "template e group h rank 9 every 0 stage 1 of 5 for 1")
A, B, C, D, E = range(5)
# The same with a limit of 4 above g.
LIMITED = read_cluster(
    HEAD + "group top under - weight 1 floor 0 limit 4\ngroup g under top weight 1 floor 0 limit 5\n"
    "template a group g rank 1 every 0 stage 1 of 2 for 3\n"
    "template b group g rank 5 every 2 stage 1 of 2 for 4\n"
    "template c group g rank 3 every 1 stage 1 of 3 for 6")
FREE = "age first never free"


class SettleTest(unittest.TestCase):
    def check(self, before, rows, deeds, hold=None, places=None):
        """Settle and look at everything; return the new state."""
        noted = before.note()
        found = settle(before)
        self.assertIsInstance(found, Settlement)
        self.assertEqual((found.rows, found.deeds, found.hold), (rows, deeds, hold))
        self.assertEqual(before.note(), noted)
        after = found.after
        self.assertIsInstance(after, State)
        self.assertEqual(after.note()[1:6], noted[1:6])
        self.assertIs(after.cluster, before.cluster)
        self.assertEqual([one.name for one in after], [one.name for one in before])
        if places is not None:
            self.assertEqual([one.place for one in after], places)
        again = settle(after)
        self.assertEqual((again.deeds, again.after.note()), ((), after.note()))
        if hold is not None:
            self.assertEqual(again.hold, hold)
        return after


class RowsTest(SettleTest):
    def test_no_jobs(self):
        self.check(state(PLAIN, FREE), (), ())
        firm = job("f", A, (1, 0), firm=True)
        self.check(state(PLAIN, FREE, [firm]), (), (), places=[(1, 0)])

    def test_a_job_that_waits_starts(self):
        after = self.check(state(PLAIN, FREE, [job("j", A, came=3)], hour=7), (("starts", "j", (1, 0), ()),), (("start", "j", (1, 0)),))
        self.assertEqual(after.note()[6], (("j", A, 3, 7, 0, 0, (1, 0), 0, (), 0, 0, 0),))

    def test_a_later_start_leaves_began(self):
        before = state(PLAIN, FREE, [job("j", C, stage=1, began=2, ran=6, lost=1, evicted=4)], hour=9)
        after = self.check(before, (("starts", "j", (2, 0), ()),), (("start", "j", (2, 0)),))
        self.assertEqual(after.note()[6], (("j", C, 0, 2, 1, 0, (2, 0), 0, (), 6, 1, 4),))

    def test_began_0_is_a_start_too(self):
        after = self.check(state(PLAIN, FREE, [job("j", A, began=0)], hour=9), (("starts", "j", (1, 0), ()),), (("start", "j", (1, 0)),))
        self.assertEqual(after["j"].began, 0)

    def test_the_word_place(self):
        for place, counts in (("first", (1, 0)), ("tight", (0, 1)), ("loose", (1, 0))):
            self.check(state(PLAIN, f"age {place} never free", [job("j")]), (("starts", "j", counts, ()),), (("start", "j", counts),))

    def test_stays(self):
        after = self.check(state(PLAIN, FREE, [job("j", A, (0, 1), done=1, began=0, ran=1)], hour=1), (("stays", "j"),), (), places=[(0, 1)])
        self.assertEqual(after["j"].done, 1)

    def test_a_job_that_stays_may_be_on_a_machine_that_is_shut(self):
        self.check(state(PLAIN, FREE, [job("j", A, (0, 1))], shut=(1,)), (("stays", "j"),), (), places=[(0, 1)])

    def test_rooms(self):
        self.check(state(PLAIN, FREE, [job("j", E)]), (("rooms", "j", ((0, 0), (0, 0))),), ())
        jobs = [job("i", A, (1, 0)), job("j", C, stage=0)]
        self.check(state(PLAIN, FREE, jobs), (("stays", "i"), ("rooms", "j", ((0, 0), (0, 0)))), ())
        self.check(state(PLAIN, FREE, [job("j", A)], down=(0,), shut=(1,)), (("rooms", "j", ((0, "barred"), (0, "barred"))),), ())
        self.check(state(PLAIN, FREE, [job("j", A)], down=(0,)), (("starts", "j", (0, 1), ()),), (("start", "j", (0, 1)),))
        self.check(state(PLAIN, FREE, [job("j", D)], shut=(1,)), (("rooms", "j", ((0, "needs"), (0, "barred"))),), ())

    def test_all_hours_left_must_have_room(self):
        for start, done, starts in ((3, 0, True), (2, 0, False), (2, 1, True), (1, 1, False), (1, 2, True)):
            windows = ((0, 7 + start, 7 + start + 2), (1, 7 + start, 7 + start + 2))
            rows = (("starts", "j", (1, 0), ()),) if starts else (("rooms", "j", ((0, 0), (0, 0))),)
            self.check(state(PLAIN, FREE, [job("j", A, done=done)], hour=7, windows=windows), rows, (("start", "j", (1, 0)),) if starts else ())

    def test_plans_and_places_of_firm_jobs_count(self):
        firm = job("f", C, (1, 0), firm=True, plan=((1, 6, (0, 2)),))
        # a goes for 3 hours, d for 9.
        self.check(state(PLAIN, FREE, [firm, job("j", A), job("k", D)]),
                   (("starts", "j", (0, 1), ()), ("rooms", "k", ((0, "needs"), (0, 0)))), (("start", "j", (0, 1)),))
        self.check(state(PLAIN, FREE, [firm, job("k", D)]), (("rooms", "k", ((0, "needs"), (0, 0))),), ())

    def test_loose_jobs_that_wait_take_nothing(self):
        jobs = [job("i", E), job("j", A)]
        self.check(state(PLAIN, FREE, jobs), (("rooms", "i", ((0, 0), (0, 0))), ("starts", "j", (1, 0), ())), (("start", "j", (1, 0)),))

    def test_accepted_jobs_count(self):
        jobs = [job("h", A), job("i", A), job("j", A), job("k", A)]
        self.check(state(PLAIN, FREE, jobs), (("starts", "h", (1, 0), ()), ("starts", "i", (1, 0), ()), ("starts", "j", (0, 1), ()),
                                              ("rooms", "k", ((0, 0), (0, 0)))),
                   (("start", "h", (1, 0)), ("start", "i", (1, 0)), ("start", "j", (0, 1))))


class LimitTest(SettleTest):
    def test_a_job_that_waits(self):
        jobs = [job("h", A, (1, 0)), job("i", A, (0, 1)), job("j", A)]
        self.check(state(LIMITED, FREE, jobs), (("stays", "h"), ("stays", "i"), ("limit", "j", 1, 0)), ())

    def test_just_within_and_one_more(self):
        self.check(state(LIMITED, FREE, [job("i", A), job("j", B)]), (("starts", "i", (1, 0), ()), ("starts", "j", (1, 0), ())),
                   (("start", "i", (1, 0)), ("start", "j", (1, 0))))
        self.check(state(LIMITED, FREE, [job("i", C), job("j", A)]), (("starts", "i", (1, 0), ()), ("limit", "j", 0, 0)), (("start", "i", (1, 0)),))

    def test_the_first_group_from_the_leaf_up(self):
        self.check(state(LIMITED, FREE, [job("i", C), job("j", C)]), (("starts", "i", (1, 0), ()), ("limit", "j", 1, 0)), (("start", "i", (1, 0)),))

    def test_firm_jobs_do_not_count(self):
        firm = job("f", B, (1, 0), firm=True)
        self.check(state(LIMITED, FREE, [firm, job("i", A), job("j", A)]), (("starts", "i", (1, 0), ()), ("starts", "j", (0, 1), ())),
                   (("start", "i", (1, 0)), ("start", "j", (0, 1))))

    def test_a_job_that_runs_is_thrown_out_and_does_not_count(self):
        # b comes first by its rank, then c is too much; its room on m1 is free for a.
        jobs = [job("i", C, (1, 0), done=4, began=0), job("j", B, (0, 1), began=0), job("k", A)]
        after = self.check(state(LIMITED, "rank first never free", jobs, hour=5),
                           (("stays", "j"), ("limit", "i", 0, 0), ("starts", "k", (1, 0), ())),
                           (("out", "i", 0), ("start", "k", (1, 0))), places=[None, (0, 1), (1, 0)])
        self.assertEqual(after.note()[6][0], ("i", C, 0, 0, 0, 4, None, 0, (), 0, 0, 1))

    def test_limit_comes_before_behind_and_rooms(self):
        jobs = [job("h", C, (1, 0)), job("i", A, came=1), job("j", B)]
        self.check(state(LIMITED, "age first never strict", jobs), (("stays", "h"), ("limit", "i", 0, 0), ("limit", "j", 0, 0)), ())


class PhasesTest(SettleTest):
    def test_never_tries_the_running_jobs_first(self):
        jobs = [job("h", B), job("i", A, (1, 0)), job("j", B, (1, 0)), job("k", A)]
        self.check(state(PLAIN, "rank first never free", jobs),
                   (("stays", "j"), ("stays", "i"), ("starts", "h", (0, 1), ()), ("rooms", "k", ((0, 0), (0, 0)))), (("start", "h", (0, 1)),))

    def test_any_evicts_by_the_order(self):
        jobs = [job("h", A, (1, 0), done=2), job("i", A, (0, 1), done=1), job("j", B), job("k", C)]
        # j has room beside both; k only without h.
        self.check(state(PLAIN, "rank first any free", jobs),
                   (("starts", "j", (1, 0), ()), ("rooms", "k", ((0, 0), (0, 0))), ("stays", "h"), ("stays", "i")), (("start", "j", (1, 0)),))
        self.check(state(PLAIN, "rank first any free", [jobs[0], jobs[1], jobs[3]]),
                   (("starts", "k", (1, 0), (("h", ((0, 0), (0, 0))),)), ("starts", "h", (0, 1), (("i", ((0, 0), (0, 0))),)),
                    ("rooms", "i", ((0, 0), (0, 0)))),
                   (("out", "h", 2), ("start", "k", (1, 0)), ("out", "i", 1), ("start", "h", (0, 1))), places=[(0, 1), None, (1, 0)])

    def test_evicted_jobs_lose_their_work_and_are_tried_later(self):
        jobs = [job("h", A, (1, 0), done=2, began=1, ran=2), job("k", C)]
        after = self.check(state(PLAIN, "rank first any free", jobs, hour=3),
                           (("starts", "k", (1, 0), (("h", ((0, 0), (0, 0))),)), ("starts", "h", (0, 1), ())),
                           (("out", "h", 2), ("start", "k", (1, 0)), ("start", "h", (0, 1))))
        self.assertEqual(job_notes(after)["h"], ("h", A, 0, 1, 0, 0, (0, 1), 0, (), 2, 2, 1))

    def test_a_job_that_is_thrown_out_and_has_no_room_for_its_new_hours(self):
        jobs = [job("h", A, (1, 0), done=2), job("k", C)]
        after = self.check(state(PLAIN, "rank first any free", jobs, windows=((1, 1, 3),)),
                           (("starts", "k", (1, 0), (("h", ((0, 0), (0, 0))),)), ("rooms", "h", ((0, 0), (0, 0)))),
                           (("out", "h", 2), ("start", "k", (1, 0))))
        self.assertEqual((after["h"].lost, after["h"].evicted, after["h"].done), (2, 1, 0))

    def test_never_evicts_nobody(self):
        jobs = [job("h", A, (1, 0)), job("k", C)]
        self.check(state(PLAIN, "rank first never free", jobs), (("stays", "h"), ("rooms", "k", ((0, 0), (0, 0)))), ())

    def test_owed_jobs_evict(self):
        # c is owed by the floor 3 of h.
        jobs = [job("h", A, (1, 0)), job("i", B, (0, 1)), job("k", C)]
        self.check(state(PLAIN, "age first owed free", jobs),
                   (("starts", "k", (1, 0), (("h", ((0, 0), (0, 0))),)), ("stays", "i"), ("rooms", "h", ((0, 0), (0, 0)))),
                   (("out", "h", 0), ("start", "k", (1, 0))), places=[None, (0, 1), (1, 0)])

    def test_jobs_that_are_not_owed_do_not(self):
        jobs = [job("h", B, (1, 0)), job("i", A), job("j", E)]
        self.check(state(PLAIN, "age first owed free", jobs),
                   (("stays", "h"), ("starts", "i", (1, 0), ()), ("rooms", "j", ((0, 0), (0, 0)))), (("start", "i", (1, 0)),))

    def test_a_job_is_owed_by_the_used_amounts_of_the_moment(self):
        # Only the first c is owed; the second one is tried behind the job that runs.
        jobs = [job("i", A, (0, 1)), job("j", C), job("k", C)]
        self.check(state(PLAIN, "age first owed free", jobs),
                   (("starts", "j", (1, 0), ()), ("stays", "i"), ("rooms", "k", ((0, 0), (0, 0)))), (("start", "j", (1, 0)),))

    def test_owed_jobs_that_run_stay_in_the_first_phase(self):
        jobs = [job("i", A, (0, 1)), job("j", C, (1, 0)), job("k", C)]
        self.check(state(PLAIN, "age first owed free", jobs),
                   (("stays", "j"), ("stays", "i"), ("rooms", "k", ((0, 0), (0, 0)))), ())

    def test_the_running_jobs_are_kept_by_their_precedence(self):
        # One of two must go, the one with the lesser rank; and of equal ones the younger.
        for jobs, gone in (([job("h", A, (1, 0)), job("i", B, (1, 0))], "h"), ([job("h", B, (1, 0)), job("i", A, (1, 0))], "i"),
                           ([job("h", A, (1, 0)), job("i", A, (1, 0))], "i")):
            found = settle(state(PLAIN, "rank first owed free", [*jobs, job("k", C, stage=1)], down=(1,)))
            self.assertEqual(found.rows[0], ("starts", "k", (2, 0), ((gone, ((0, 0), (0, "barred"))),)))
            self.assertEqual(found.deeds[:2], (("out", gone, 0), ("start", "k", (2, 0))))

    def test_several_evictions_stand_in_the_order_of_precedence(self):
        jobs = [job("h", A, (1, 0)), job("i", B, (1, 0)), job("j", D, (0, 1)), job("k", C)]
        made = settle(state(PLAIN, "rank first owed free", jobs, down=(1,)))
        self.assertEqual(made.rows[0], ("starts", "k", (1, 0), (("i", ((0, 0), (0, "barred"))), ("h", ((0, 0), (0, "barred"))))))
        self.assertEqual(made.deeds, (("out", "i", 0), ("out", "h", 0), ("start", "k", (1, 0))))

    def test_precedence_counts_the_new_job(self):
        # By the levels with the new job, of g, the job of h comes first and is kept; without it that of g would be.
        made = read_cluster(
            "resources core\nmachine m1 zone y has 4\ngroup g under - weight 1 floor 2\ngroup h under - weight 1 floor 0\n"
            "template a group g rank 1 every 0 stage 1 of 2 for 3\ntemplate b group h rank 1 every 0 stage 1 of 2 for 3")
        jobs = [job("k", 0), job("i", 0, (1,)), job("j", 1, (1,))]
        self.check(state(made, "share first owed free", jobs),
                   (("starts", "k", (1,), (("i", ((0, 0),)),)), ("stays", "j"), ("rooms", "i", ((0, 0),))),
                   (("out", "i", 0), ("start", "k", (1,))))

    def test_the_place_leaves_the_kept_jobs(self):
        # By loose the place would be on m1; i is kept there.
        jobs = [job("i", C, (1, 0)), job("j", B)]
        self.check(state(PLAIN, "rank loose any free", jobs), (("starts", "j", (0, 1), ()), ("stays", "i")), (("start", "j", (0, 1)),))

    def test_shut_machines_are_barred_for_starts_only(self):
        jobs = [job("i", A, (1, 0)), job("j", B)]
        self.check(state(PLAIN, "rank first any free", jobs, shut=(0,)), (("starts", "j", (0, 1), ()), ("stays", "i")), (("start", "j", (0, 1)),))


class OrderTest(SettleTest):
    def test_pick_decides_with_the_used_amounts_of_the_moment(self):
        jobs = [job("h", A), job("i", B), job("j", D), job("k", A)]
        for order, names in (("age", "hijk"), ("rank", "ijhk"), ("short", "hkij")):
            found = settle(state(PLAIN, f"{order} first never free", jobs))
            self.assertEqual("".join(row[1] for row in found.rows), names)

    def test_share(self):
        made = read_cluster("resources core\nmachine m1 zone y has 9\ngroup g under - weight 1 floor 0\ngroup h under - weight 2 floor 0\n"
                            "template a group g rank 1 every 0 stage 1 of 1 for 3\ntemplate b group h rank 1 every 0 stage 1 of 1 for 3")
        jobs = [job("h", 0), job("i", 0), job("j", 1), job("k", 1), job("l", 1)]
        found = settle(state(made, "share first never free", jobs))
        self.assertEqual("".join(row[1] for row in found.rows), "hjkil")


class StrictTest(SettleTest):
    def test_the_first_row_rooms_blocks(self):
        jobs = [job("h", A), job("i", C, stage=0), job("j", E), job("k", A), job("l", D)]
        self.check(state(PLAIN, "age first never strict", jobs),
                   (("starts", "h", (1, 0), ()), ("rooms", "i", ((0, 0), (0, 0))), ("behind", "j", "i"), ("behind", "k", "i"), ("behind", "l", "i")),
                   (("start", "h", (1, 0)),))

    def test_in_whichever_phase(self):
        # c is owed but has no room; then the jobs that run stay, and the others are behind it.
        jobs = [job("h", A, (1, 0)), job("i", A), job("k", C)]
        rows = (("rooms", "k", ((0, "barred"), (0, 0))), ("stays", "h"), ("behind", "i", "k"))
        self.check(state(PLAIN, "age first owed strict", jobs, shut=(0,)), rows, ())
        rows = (("rooms", "k", ((0, "barred"), (0, 0))), ("stays", "h"), ("behind", "i", "k"))
        self.check(state(PLAIN, "rank first any strict", jobs, shut=(0,)), rows, ())

    def test_jobs_that_run_stay_behind_a_blocker(self):
        jobs = [job("k", E), job("h", A, (1, 0)), job("i", A)]
        self.check(state(PLAIN, "age first any strict", jobs), (("rooms", "k", ((0, 0), (0, 0))), ("stays", "h"), ("behind", "i", "k")), ())

    def test_without_strict_nobody_blocks(self):
        jobs = [job("k", E), job("i", A)]
        for words in ("age first never free", "age first owed free", "age first any free", "age first any hold"):
            self.check(state(PLAIN, words, jobs), (("rooms", "k", ((0, 0), (0, 0))), ("starts", "i", (1, 0), ())), (("start", "i", (1, 0)),))


class HoldTest(SettleTest):
    def test_hour_and_place(self):
        # a runs on m1 for 2 more hours, the window of m1 begins at hour 12; c needs 6 hours of 3.
        jobs = [job("h", A, (1, 0), done=1), job("i", C)]
        for windows, hour in (((), 7), (((0, 12, 13),), 13), (((0, 13, 14),), 7)):
            self.check(state(PLAIN, "age first never hold", jobs, hour=5, windows=windows),
                       (("stays", "h"), ("rooms", "i", ((0, 0), (0, 0)))), (), ("i", hour, (1, 0)))

    def test_the_next_hour_at_least(self):
        jobs = [job("h", A, (1, 0), done=2), job("i", C)]
        self.check(state(PLAIN, "age first never hold", jobs, hour=5), (("stays", "h"), ("rooms", "i", ((0, 0), (0, 0)))), (), ("i", 6, (1, 0)))

    def test_no_hour_has_room(self):
        for jobs, rows in (([job("i", E)], (("rooms", "i", ((0, 0), (0, 0))),)),
                           ([job("i", E), job("j", C), job("k", A)],
                            (("rooms", "i", ((0, 0), (0, 0))), ("starts", "j", (1, 0), ()), ("starts", "k", (0, 1), ())))):
            self.check(state(PLAIN, "age first never hold", jobs), rows, tuple(("start", row[1], row[2]) for row in rows[1:]))

    def test_without_an_hour_there_is_no_hold_in_this_settling(self):
        # i never has room; j behind it has none now, but gets no hold either.
        jobs = [job("h", A, (1, 0)), job("i", E), job("j", C)]
        self.check(state(PLAIN, "age first never hold", jobs),
                   (("stays", "h"), ("rooms", "i", ((0, 0), (0, 0))), ("rooms", "j", ((0, 0), (0, 0)))), ())

    def test_the_tasks_of_the_hold_take_their_amounts(self):
        # c holds 3 of m1 from hour 3 to hour 9: for a there is no room beside it from hour 1 on, for d on m2 there is.
        jobs = [job("h", A, (1, 0)), job("i", C), job("j", B), job("k", D), job("l", A)]
        self.check(state(PLAIN, "age first never hold", jobs),
                   (("stays", "h"), ("rooms", "i", ((0, 0), (0, 0))), ("starts", "j", (0, 1), ()), ("rooms", "k", ((0, "needs"), (0, 0))),
                    ("starts", "l", (1, 0), ())), (("start", "j", (0, 1)), ("start", "l", (1, 0))), ("i", 3, (1, 0)))
        jobs = [job("h", A, (1, 0)), job("i", C), job("j", D), job("l", B)]
        self.check(state(PLAIN, "age first never hold", jobs),
                   (("stays", "h"), ("rooms", "i", ((0, 0), (0, 0))), ("starts", "j", (0, 1), ()), ("rooms", "l", ((0, 0), (0, 0)))),
                   (("start", "j", (0, 1)),), ("i", 3, (1, 0)))

    def test_the_total_of_the_hold_is_used(self):
        jobs = [job("h", A, (1, 0)), job("i", B, (1, 0)), job("j", C), job("k", A)]
        made = read_cluster(
            HEAD + "group g under - weight 1 floor 0 limit 7\ntemplate a group g rank 1 every 0 stage 1 of 2 for 3\n"
            "template b group g rank 5 every 2 stage 1 of 2 for 4\ntemplate c group g rank 3 every 1 stage 1 of 3 for 6")
        rows = (("stays", "h"), ("stays", "i"), ("rooms", "j", ((0, 0), (0, 0))))
        self.check(state(made, "age first never hold", jobs), (*rows, ("limit", "k", 0, 0)), (), ("j", 4, (1, 0)))
        self.check(state(made, "age first never free", jobs), (*rows, ("starts", "k", (0, 1), ())), (("start", "k", (0, 1)),))

    def test_the_oldest_is_next_until_the_first_row_rooms(self):
        # By rank b and then c would come first.
        jobs = [job("h", A), job("i", D), job("j", C), job("k", A), job("l", B), job("m", C)]
        found = settle(state(PLAIN, "rank first never hold", jobs))
        self.assertEqual([row[:2] for row in found.rows],
                         [("starts", "h"), ("starts", "i"), ("rooms", "j"), ("rooms", "l"), ("rooms", "m"), ("starts", "k")])
        self.assertEqual(found.hold, ("j", 3, (1, 0)))

    def test_a_limit_is_no_row_rooms(self):
        jobs = [job("h", A, (1, 0)), job("i", C), job("j", B)]
        found = settle(state(LIMITED, "rank first never hold", jobs))
        self.assertEqual(found.rows, (("stays", "h"), ("limit", "i", 0, 0), ("starts", "j", (1, 0), ())))

    def test_only_the_last_phase_gives_a_hold(self):
        # c is owed and has no room in the first phase; the hold is for the job e of the last one, which has no hour.
        jobs = [job("f", B, (1, 0), firm=True), job("k", C), job("i", E), job("j", C)]
        self.check(state(PLAIN, "age first owed hold", jobs),
                   (("rooms", "k", ((0, 0), (0, 0))), ("rooms", "j", ((0, 0), (0, 0))), ("rooms", "i", ((0, 0), (0, 0)))), ())
        # Here the last phase has a job that gets one.
        jobs = [job("f", B, (1, 0), firm=True), job("k", C), job("g", A, (0, 1)), job("i", B), job("j", B)]
        self.check(state(PLAIN, "age first owed hold", jobs),
                   (("rooms", "k", ((0, 0), (0, 0))), ("stays", "g"), ("starts", "i", (1, 0), ()), ("rooms", "j", ((0, 0), (0, 0)))),
                   (("start", "i", (1, 0)),), ("j", 3, (0, 1)))

    def test_any_gives_no_hold(self):
        jobs = [job("h", B, (1, 0)), job("i", C), job("j", D), job("k", A)]
        for order in ("age", "rank", "short", "share"):
            free, hold = settle(state(PLAIN, f"{order} first any free", jobs)), settle(state(PLAIN, f"{order} first any hold", jobs))
            self.assertEqual((hold.note(), hold.after.note()[6], hold.hold), (free.note(), free.after.note()[6], None))

    def test_the_place_is_the_first_and_avoids_barred_machines(self):
        made = read_cluster("resources core\nmachine m1 zone y has 2\nmachine m2 zone y has 4\nmachine m3 zone y has 3\n"
                            "group g under - weight 1 floor 0\ntemplate a group g rank 1 every 0 stage 1 of 2 for 3\n"
                            "template b group g rank 1 every 0 stage 3 of 1 for 1\ntemplate c group g rank 1 every 0 stage 1 of 4 for 1")
        windows = ((0, 5, 6), (1, 5, 6), (2, 5, 6))
        for shut, counts in (((), (2, 1, 0)), ((0,), (0, 3, 0)), ((0, 1), (0, 0, 3))):
            found = settle(state(made, "age loose never hold", [job("j", 1)], hour=5, windows=windows, shut=shut))
            self.assertEqual(found.hold, ("j", 6, counts))
            found = settle(state(made, "age tight never hold", [job("j", 1)], hour=5, windows=windows, down=shut))
            self.assertEqual(found.hold, ("j", 6, counts))

    def test_the_hours_end_with_the_greatest_end(self):
        # The last window ends at hour 9: from there on there is room.
        windows = ((0, 5, 7), (0, 8, 9), (1, 6, 9))
        found = settle(state(PLAIN, "age first never hold", [job("j", A)], hour=5, windows=windows, shut=(1,)))
        self.assertEqual(found.hold, ("j", 9, (1, 0)))

    def test_work_that_is_done_makes_the_hold_shorter(self):
        windows = ((0, 5, 6), (0, 9, 20), (1, 5, 20))
        for done, hour in ((1, 6), (0, 6)):
            found = settle(state(PLAIN, "age first never hold", [job("j", A, done=done)], hour=5, windows=windows))
            self.assertEqual(found.hold, ("j", hour, (1, 0)))
        windows = ((0, 5, 6), (0, 8, 20), (1, 5, 20))
        for done, hour in ((1, 6), (0, 20)):
            found = settle(state(PLAIN, "age first never hold", [job("j", A, done=done)], hour=5, windows=windows))
            self.assertEqual(found.hold, ("j", hour, (1, 0)))


class ClashTest(SettleTest):
    def test_places_that_do_not_stand_beside_the_base(self):
        firm = job("f", C, (1, 0), firm=True)
        jobs = [firm, job("h", A, (1, 0), done=1), job("i", A, (0, 1))]
        after = self.check(state(PLAIN, FREE, jobs, hour=4),
                           (("clash", "h"), ("stays", "i"), ("rooms", "h", ((0, 0), (0, 0)))), (("out", "h", 1),), places=[(1, 0), None, (0, 1)])
        self.assertEqual((after["h"].lost, after["h"].evicted), (1, 1))

    def test_a_plan_that_is_later_clashes_only_in_the_hours_left(self):
        firm = job("f", C, firm=True, plan=((0, 6, (1, 0)), (1, 12, (2, 0))))
        for done, clash in ((0, True), (1, False)):
            found = settle(state(PLAIN, FREE, [firm, job("h", A, (1, 0), done=done)], hour=4))
            self.assertEqual(found.rows[0], ("clash", "h") if clash else ("stays", "h"))

    def test_the_older_ones_are_kept(self):
        firm = job("f", A, (1, 0), firm=True)
        jobs = [job("h", A, (1, 0)), firm, job("i", A, (1, 0)), job("j", A, (1, 0))]
        self.check(state(PLAIN, FREE, jobs),
                   (("clash", "i"), ("clash", "j"), ("stays", "h"), ("starts", "i", (0, 1), ()), ("rooms", "j", ((0, 0), (0, 0)))),
                   (("out", "i", 0), ("out", "j", 0), ("start", "i", (0, 1))))

    def test_one_that_is_thrown_out_makes_room_for_a_younger_one(self):
        jobs = [job("f", A, (1, 0), firm=True), job("h", C, (1, 0)), job("i", A, (1, 0))]
        self.check(state(PLAIN, FREE, jobs), (("clash", "h"), ("stays", "i"), ("rooms", "h", ((0, 0), (0, 0)))), (("out", "h", 0),))

    def test_no_machine_is_barred(self):
        jobs = [job("h", A, (1, 0)), job("i", A, (0, 1))]
        self.check(state(PLAIN, FREE, jobs, shut=(0, 1)), (("stays", "h"), ("stays", "i")), ())

    def test_behind_a_failure_the_blocker_may_be_a_clash(self):
        jobs = [job("f", C, (1, 0), firm=True), job("h", C, (1, 0)), job("i", A, (0, 1)), job("j", D)]
        self.check(state(PLAIN, "age first never strict", jobs),
                   (("clash", "h"), ("stays", "i"), ("rooms", "h", ((0, 0), (0, 0))), ("behind", "j", "h")), (("out", "h", 0),))


class ThrownOutTest(SettleTest):
    def test_checkpoints(self):
        # By every 0, 1, 2 and 3, a window throws the job out.
        for every, done, kept in ((0, 0, 0), (0, 1, 0), (0, 5, 0), (1, 0, 0), (1, 5, 5), (2, 5, 4), (2, 4, 4), (3, 5, 3), (3, 2, 0), (24, 5, 0)):
            made = read_cluster("resources core\nmachine m1 zone y has 4\ngroup g under - weight 1 floor 0\n"
                                f"template a group g rank 1 every {every} stage 1 of 2 for 6")
            before = state(made, FREE, [job("h", 0, (1,), done=done, ran=7, lost=3, evicted=2, began=1)], hour=9, windows=((0, 9, 10),))
            after = self.check(before, (("clash", "h"), ("rooms", "h", ((0, 0),))), (("out", "h", done - kept),))
            self.assertEqual(after.note()[6], (("h", 0, 0, 1, 0, kept, None, 0, (), 7, 3 + done - kept, 3),))


class CertificateTest(unittest.TestCase):
    def test_note(self):
        found = settle(state(PLAIN, "age first never hold", [job("h", A, (1, 0)), job("i", C), job("j", D)]))
        self.assertEqual(found.note(), (
            "settled", (("stays", "h"), ("rooms", "i", ((0, 0), (0, 0))), ("starts", "j", (0, 1), ())), (("start", "j", (0, 1)),), ("i", 3, (1, 0))))
        self.assertEqual(read_note(write_note(found.note())), found.note())
        self.assertEqual(settle(state(PLAIN, FREE)).note(), ("settled", (), (), None))

    def test_kind(self):
        self.assertTrue(issubclass(Settlement, Certificate) and issubclass(Settlement, Yes) and not issubclass(Settlement, No))
        self.assertIs(settle(state(PLAIN, FREE)).holds(), True)

    def test_arguments_are_stored_as_they_are(self):
        rows, deeds, hold = (("x",),), ((3, "y"),), ("n", -1, ())
        made = Settlement(rows, deeds, hold, None)
        self.assertIs(made.rows, rows)
        self.assertEqual((made.deeds, made.hold, made.after), (deeds, hold, None))
        self.assertEqual(made.note(), ("settled", rows, deeds, hold))


def varied(dice, made):
    """A state that is not settled, with other words, more jobs, fewer reservations and other machines."""
    jobs = list(made.jobs)
    for at, one in enumerate(jobs):
        if one.firm and dice.random() < 0.2:
            jobs[at] = job(one.name, one.template, one.place, came=one.came, began=one.began, stage=one.stage, done=one.done)
    for at in range(dice.randrange(13 - len(jobs))):
        template = dice.randrange(len(made.cluster.templates))
        jobs.append(Job(f"n{at}", template, made.hour, stage=dice.randrange(len(made.cluster.templates[template].stages))))
    machines = range(len(made.cluster.machines))
    windows = list(made.windows)
    if dice.random() < 0.3:
        windows.append((dice.choice(machines), made.hour + dice.randrange(3), made.hour + 3 + dice.randrange(3)))
    down, shut = [tuple(at for at in machines if dice.random() < 0.1) for _ in range(2)]
    return State(made.cluster, dice.choice(POLICIES), made.hour, down, shut, tuple(sorted(windows)), jobs)


class RandomTest(unittest.TestCase):
    def unsettled(self, seed):
        dice = random.Random(seed)
        for _, _, after, _ in random_book(dice, 20, ROUGH):
            yield varied(dice, after)

    def test_word_by_word(self):
        kinds = set()
        for seed in range(40):
            for before in self.unsettled(seed):
                found = settle(before)
                self.assertEqual((found.rows, found.deeds, found.hold, found.after.note()[6]), plain_settle(before))
                kinds.update(row[0] for row in found.rows)
                kinds.update("evictions" for row in found.rows if row[0] == "starts" and row[3])
                kinds.update("hold" for _ in found.hold or ())
        self.assertEqual(kinds, {"clash", "limit", "stays", "behind", "rooms", "starts", "evictions", "hold"})

    def test_a_second_settling_changes_nothing(self):
        for seed in range(40, 80):
            for before in self.unsettled(seed):
                found = settle(before)
                again = settle(found.after)
                self.assertEqual((again.deeds, again.after.note()), ((), found.after.note()))
                if found.hold is not None:
                    self.assertEqual(again.hold, found.hold)

    def test_owed_jobs_do_not_wait_for_others(self):
        met = 0
        for seed in range(80, 140):
            for before in self.unsettled(seed):
                policy = before.policy
                if policy.fill == "free" and (policy.evict == "owed" or (policy.evict == "any" and policy.order == "share")):
                    met += self.check_owed(before)
        self.assertGreater(met, 20)

    def check_owed(self, before):
        """Check that only jobs that were owed were accepted before an owed job with the row rooms; count these."""
        gangs, all_owed, met = [], True, 0
        for row in settle(before).rows:
            if row[0] == "clash":
                continue
            gang = (before[row[1]].template, before[row[1]].stage)
            is_owed = owed(before.cluster, used_by(before.cluster, gangs), gang)
            if row[0] == "rooms" and is_owed:
                self.assertTrue(all_owed)
                met += 1
            if row[0] in ("stays", "starts"):
                gangs.append(gang)
                all_owed = all_owed and is_owed
        return met


class WholeProgramTest(unittest.TestCase):
    """Point 41 for the states of random books, with failures and without."""

    def test_settled_states(self):
        for seed in range(200, 260):
            for _, _, after, _ in random_book(random.Random(seed), 30, ROUGH if seed % 2 else CALM):
                again = settle(after)
                self.assertEqual((again.deeds, again.after.note()), ((), after.note()))
                self.assertIsNone(after.takes().overfull())
                used = used_by(after.cluster, [(one.template, one.stage) for one in after if one.place and not one.firm])
                for group, amounts in zip(after.cluster.groups, used):
                    self.assertTrue(group.limit is None or amounts in group.limit)


if __name__ == "__main__":
    unittest.main()
