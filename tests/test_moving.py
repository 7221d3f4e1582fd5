"""Points 55 to 57: moves, lists of moves, and drains."""

import itertools
import random
import unittest

from gangbooks.clustertext import read_cluster
from gangbooks.errors import BadMove, GangError, NoChange, NoRoom, NotRunning, TooWide, Unknown
from gangbooks.failing import fail, repair
from gangbooks.moving import MovePlan, Stuck, allowed, drain, move_plan, moved
from gangbooks.notes import Certificate, No, Yes, read_note, write_note
from gangbooks.packing import CaseTree
from gangbooks.state import State
from tests.support import job, job_notes, refuse, state
from tests.worlds import ROUGH, random_book, random_cluster

CLUSTER = read_cluster(
    "resources core mem\nmachine m1 zone y has 4 4 labels x\nmachine m2 zone z has 4 4\nmachine m3 zone z has 2 9 labels v\n"
    "group g under - weight 1 floor 0 0\n"
    "template a group g rank 1 every 0 stage 2 of 1 0 for 4\n"
    "template b group g rank 1 every 2 stage 2 of 2 1 for 6 stage 1 of 1 1 for 1\n"
    "template c group g rank 9 every 1 stage 2 of 1 0 for 4 wishes near\n"
    "template d group g rank 1 every 0 stage 2 of 1 0 for 4 wishes apart\n"
    "template e group g rank 1 every 0 stage 1 of 1 0 for 4 wishes needs:x\n"
    "template f group g rank 1 every 0 stage 1 of 1 0 for 4 wishes bars:v never:e never:f")
A, B, C, D, E, F = range(6)
FREE = "age first never free"


def firm(name, *plan, template=A, **others):
    return job(name, template, firm=True, plan=plan, **others)


def rows(tasks, machines=3):
    return [row for row in itertools.product(range(tasks + 1), repeat=machines) if sum(row) == tasks]


class AllowedTest(unittest.TestCase):
    def check(self, before, name, wanted, barred=()):
        """Check which rows of counts are allowed."""
        noted = before.note()
        tasks = sum(before[name].place)
        found = [row for row in rows(tasks) if allowed(before, name, row, barred)]
        self.assertEqual(found, wanted)
        for row in rows(tasks):
            self.assertIsInstance(allowed(before, name, row, barred), bool)
            if row in wanted:
                after = moved(before, name, row, barred)
                self.assertIsInstance(after, State)
                self.assertEqual(after[name].place, row)
                changed = list(before.note()[6])
                at = [one.name for one in before].index(name)
                changed[at] = (*changed[at][:6], row, *changed[at][7:])
                self.assertEqual(after.note(), (*noted[:6], tuple(changed)))
            else:
                refuse(self, BadMove, row, moved, before, name, row, barred)
        self.assertEqual(before.note(), noted)

    def test_all_but_the_present_place(self):
        self.check(state(CLUSTER, FREE, [job("j", A, (1, 1, 0))]), "j", [row for row in rows(2) if row != (1, 1, 0)])

    def test_down_shut_and_barred_machines_get_no_more(self):
        one = job("j", A, (1, 1, 0))
        without = [(1, 0, 1), (2, 0, 0)]
        self.check(state(CLUSTER, FREE, [one], shut=(1,)), "j", [(0, 0, 2), (0, 1, 1), (1, 0, 1), (2, 0, 0)])
        self.check(state(CLUSTER, FREE, [one], down=(2,)), "j", [(0, 2, 0), (2, 0, 0)])
        self.check(state(CLUSTER, FREE, [one]), "j", [(0, 0, 2), (0, 1, 1), *without], (1,))
        self.check(state(CLUSTER, FREE, [one], shut=(0,), down=(1,)), "j", [], barred=(2,))

    def test_tasks_may_leave_or_stay_on_machines_that_are_shut(self):
        self.check(state(CLUSTER, FREE, [job("j", A, (1, 1, 0))], shut=(0, 1)), "j", [(0, 0, 2), (0, 1, 1), (1, 0, 1)])

    def test_labels(self):
        self.check(state(CLUSTER, FREE, [job("j", E, (1, 0, 0))]), "j", [])
        # The place itself may lack a label: only what is above it counts.
        self.check(state(CLUSTER, FREE, [job("j", E, (0, 1, 0))]), "j", [(1, 0, 0)])
        self.check(state(CLUSTER, FREE, [job("j", F, (1, 0, 0))]), "j", [(0, 1, 0)])

    def test_foes(self):
        others = [job("k", E, (1, 0, 0))]
        self.check(state(CLUSTER, FREE, [*others, job("j", F, (0, 1, 0))]), "j", [])
        self.check(state(CLUSTER, FREE, [job("k", F, (1, 0, 0)), job("j", E, (0, 1, 0))]), "j", [])
        # Another job of f is a foe, the job's own place is none.
        self.check(state(CLUSTER, FREE, [job("k", F, (0, 1, 0)), job("j", F, (1, 0, 0))]), "j", [])
        self.check(state(CLUSTER, FREE, [job("k", F, (0, 1, 0)), job("j", F, (0, 0, 1))]), "j", [(1, 0, 0)])

    def test_foes_count_in_the_hours_left(self):
        planned = firm("k", (0, 8, (1, 0, 0)), template=E)
        for done, wanted in ((0, []), (1, [(1, 0, 0)])):
            self.check(state(CLUSTER, FREE, [planned, job("j", F, (0, 1, 0), done=done)], hour=5), "j", wanted)

    def test_both_places_need_room(self):
        # j has both tasks on m1 and one free core there; m2 has one, m3 none.
        others = [job("h", A, (1, 1, 0)), job("i", A, (0, 2, 0)), job("k", A, (0, 0, 2))]
        self.check(state(CLUSTER, FREE, [*others, job("j", A, (2, 0, 0))]), "j", [(1, 1, 0)])
        # Its own tasks leave no room for more of them.
        tight = [job("h", A, (2, 0, 0)), job("j", A, (1, 1, 0)), job("k", A, (0, 0, 2))]
        self.check(state(CLUSTER, FREE, tight), "j", [(0, 2, 0), (2, 0, 0)])
        self.check(state(CLUSTER, FREE, [*tight, firm("f", (0, 1, (1, 0, 0)), template=B)]), "j", [(0, 2, 0)])

    def test_the_free_amounts_in_all_hours_left(self):
        for window, wanted in (((1, 8, 9), []), ((1, 9, 10), [(0, 1, 0)])):
            before = state(CLUSTER, FREE, [job("j", E, (0, 0, 1))], hour=5, windows=((0, 7, 8), window))
            self.check(before, "j", [])
            before = state(CLUSTER, FREE, [job("j", F, (0, 0, 1))], hour=5, windows=((0, 7, 8), window))
            self.check(before, "j", wanted)

    def test_resources_of_which_a_task_needs_nothing_do_not_matter(self):
        # There is no mem left on m2, and a needs none; b needs some.
        takes = read_cluster("resources core mem\nmachine m1 zone y has 4 4\nmachine m2 zone z has 4 1\ngroup g under - weight 1 floor 0 0\n"
                             "template a group g rank 1 every 0 stage 1 of 1 0 for 4\ntemplate b group g rank 1 every 0 stage 1 of 1 1 for 4")
        for template, wanted in ((0, True), (1, False)):
            before = state(takes, FREE, [job("k", 1, (0, 1)), job("j", template, (1, 0))])
            self.assertIs(allowed(before, "j", (0, 1)), wanted)

    def test_apart_and_near(self):
        self.check(state(CLUSTER, FREE, [job("j", D, (1, 1, 0))]), "j", [(0, 1, 1), (1, 0, 1)])
        self.check(state(CLUSTER, FREE, [job("j", C, (2, 0, 0))]), "j", [(0, 0, 2), (0, 1, 1), (0, 2, 0)])

    def test_errors(self):
        before = state(CLUSTER, FREE, [job("j", A), firm("f", (0, 3, (1, 1, 0)))])
        for call in (allowed, moved):
            refuse(self, Unknown, "x", call, before, "x", (9, 9, 9))
            refuse(self, NotRunning, "j", call, before, "j", (1, 1, 0))
            refuse(self, NotRunning, "f", call, before, "f", (1, 1, 0))

    def test_firm_jobs_may_move(self):
        one = firm("f", (1, 9, (1, 0, 0)), template=B, place=(1, 1, 0), done=3)
        self.check(state(CLUSTER, FREE, [one], hour=6), "f", [(0, 1, 1), (0, 2, 0), (1, 0, 1), (2, 0, 0)])


class MovePlanTest(unittest.TestCase):
    def ask(self, before, machine):
        noted = before.note()
        found = move_plan(before, machine)
        self.assertEqual(before.note(), noted)
        return found

    def plan(self, before, machine, at, moves):
        found = self.ask(before, machine)
        self.assertIsInstance(found, MovePlan)
        self.assertEqual((found.machine, found.moves), (at, moves))

    def stuck(self, before, machine, at, places):
        found = self.ask(before, machine)
        self.assertIsInstance(found, Stuck)
        self.assertEqual((found.machine, found.places), (at, places))

    def test_nothing_to_move(self):
        self.plan(state(CLUSTER, FREE), "m1", 0, ())
        self.plan(state(CLUSTER, FREE, [job("j", A, (0, 1, 1)), job("k", A), firm("f", (0, 9, (1, 1, 0)))]), "m1", 0, ())

    def test_one_move_to_the_least_row(self):
        self.plan(state(CLUSTER, FREE, [job("j", A, (1, 1, 0))]), "m1", 0, (("j", (0, 0, 2)),))
        self.plan(state(CLUSTER, FREE, [job("j", A, (1, 1, 0))]), "m2", 1, (("j", (0, 0, 2)),))
        self.plan(state(CLUSTER, FREE, [job("j", A, (1, 1, 0))], shut=(2,)), "m2", 1, (("j", (2, 0, 0)),))

    def test_older_jobs_move_first(self):
        jobs = [job("j", A, (1, 1, 0)), job("k", A, (2, 0, 0))]
        self.plan(state(CLUSTER, FREE, jobs), "m1", 0, (("j", (0, 0, 2)), ("k", (0, 2, 0))))
        self.plan(state(CLUSTER, FREE, list(reversed(jobs))), "m1", 0, (("k", (0, 0, 2)), ("j", (0, 2, 0))))

    def test_a_job_makes_room_for_another_one(self):
        # k must leave m2 before j can come.
        made = read_cluster("resources core\nmachine m1 zone y has 4 labels x\nmachine m2 zone y has 4 labels x\nmachine m3 zone y has 2\n"
                            "group g under - weight 1 floor 0\ntemplate a group g rank 1 every 0 stage 1 of 4 for 4 wishes needs:x\n"
                            "template b group g rank 1 every 0 stage 1 of 2 for 4")
        self.plan(state(made, FREE, [job("j", 0, (1, 0, 0)), job("k", 1, (0, 1, 0))]), "m1", 0, (("k", (0, 0, 1)), ("j", (0, 1, 0))))
        self.stuck(state(made, FREE, [job("j", 0, (1, 0, 0)), job("k", 1, (0, 1, 0))], shut=(2,)), "m1", 0, (((1, 0, 0), (0, 1, 0)),))
        places = (((1, 0, 0), (0, 0, 1)), ((1, 0, 0), (0, 1, 0)))
        self.stuck(state(made, FREE, [job("j", 0, (1, 0, 0)), job("k", 1, (0, 1, 0))], windows=((1, 0, 1),)), "m1", 0, places[:1] + places[1:])

    def test_the_machine_is_barred(self):
        # Without the bar the only way would be over m1.
        made = read_cluster("resources core\nmachine m1 zone y has 2\nmachine m2 zone y has 2\ngroup g under - weight 1 floor 0\n"
                            "template a group g rank 1 every 0 stage 1 of 2 for 4")
        self.stuck(state(made, FREE, [job("j", 0, (1, 0)), job("k", 0, (0, 1))]), "m1", 0, (((1, 0), (0, 1)),))
        self.stuck(state(made, FREE, [job("j", 0, (1, 0))], down=(1,)), "m1", 0, (((1, 0),),))

    def test_all_places_that_moves_lead_to(self):
        made = read_cluster("resources core\nmachine m1 zone y has 4\nmachine m2 zone y has 3\nmachine m3 zone y has 1\ngroup g under - weight 1 floor 0\n"
                            "template a group g rank 1 every 0 stage 1 of 4 for 4\ntemplate b group g rank 1 every 0 stage 1 of 1 for 4")
        self.stuck(state(made, FREE, [job("j", 0, (1, 0, 0)), job("w", 1), job("k", 1, (0, 1, 0))]), "m1", 0,
                   (((1, 0, 0), (0, 0, 1)), ((1, 0, 0), (0, 1, 0))))

    def test_too_wide(self):
        # Twelve jobs with two rows each are just not too many.
        made = read_cluster("resources core\nmachine m1 zone y has 13\nmachine m2 zone y has 13\ngroup g under - weight 1 floor 0\n"
                            "template a group g rank 1 every 0 stage 1 of 1 for 4\ntemplate b group g rank 1 every 0 stage 2 of 1 for 4")
        jobs = [job(f"j{at}", 0, (0, 1)) for at in range(11)]
        self.plan(state(made, FREE, [*jobs, job("k", 0, (0, 1))]), "m1", 0, ())
        # Also if nothing has to move.
        refuse(self, TooWide, 4096, move_plan, state(made, FREE, [*jobs, job("k", 1, (0, 2))]), "m1")
        # Jobs that wait do not count.
        self.plan(state(made, FREE, [*jobs, job("k", 1)]), "m1", 0, ())
        refuse(self, Unknown, "x", move_plan, state(made, FREE, [*jobs, job("k", 1, (0, 2))]), "x")

    def test_the_rows_of_counts_are_counted_and_not_the_places(self):
        # 28 rows of six tasks on three machines: 28 * 28 * 6 is too much, although each job has one place only.
        made = read_cluster("resources core\nmachine m1 zone y has 12 labels x\nmachine m2 zone y has 1\nmachine m3 zone y has 1\n"
                            "group g under - weight 1 floor 0\ntemplate a group g rank 1 every 0 stage 6 of 1 for 4 wishes needs:x\n"
                            "template b group g rank 1 every 0 stage 2 of 1 for 4\ntemplate c group g rank 1 every 0 stage 1 of 1 for 4")
        jobs = [job("j", 0, (6, 0, 0)), job("k", 0, (6, 0, 0))]
        self.plan(state(made, FREE, [*jobs, job("l", 2, (0, 1, 0))]), "m3", 2, ())
        refuse(self, TooWide, 4096, move_plan, state(made, FREE, [*jobs, job("l", 1, (0, 1, 1))]), "m2")


class DrainTest(unittest.TestCase):
    def ask(self, before, machine):
        noted = before.note()
        after, deeds = drain(before, machine)
        self.assertEqual(before.note(), noted)
        self.assertIsInstance(deeds, list)
        return after, deeds

    def refuse(self, kind, subject, before, machine):
        noted = before.note()
        refuse(self, kind, subject, drain, before, machine)
        self.assertEqual(before.note(), noted)

    def test_an_empty_machine(self):
        after, deeds = self.ask(state(CLUSTER, FREE, shut=(2,), hour=4), "m2")
        self.assertEqual((after.shut, deeds, after.hour), ((1, 2), [("shut", 1)], 4))

    def test_moves_plans_and_shut(self):
        jobs = [job("j", A, (1, 1, 0), done=1, ran=1), firm("f", (1, 10, (1, 0, 0)), template=B, place=(2, 0, 0), began=4),
                firm("h", (0, 12, (2, 0, 0)))]
        after, deeds = self.ask(state(CLUSTER, FREE, jobs, hour=4), "m1")
        self.assertEqual(deeds, [("move", "j", (0, 0, 2)), ("move", "f", (0, 2, 0)), ("plan", "f", ((1, 10, (0, 0, 1)),)),
                                 ("plan", "h", ((0, 12, (0, 0, 2)),)), ("shut", 0)])
        notes = job_notes(after)
        self.assertEqual(notes["j"], ("j", A, 0, None, 0, 1, (0, 0, 2), 0, (), 1, 0, 0))
        self.assertEqual(notes["f"], ("f", B, 0, 4, 0, 0, (0, 2, 0), 1, ((1, 10, (0, 0, 1)),), 0, 0, 0))
        self.assertEqual(after.shut, (0,))

    def test_a_machine_that_is_shut_already(self):
        jobs = [job("j", A, (2, 0, 0)), firm("f", (0, 9, (0, 2, 0)))]
        after, deeds = self.ask(state(CLUSTER, FREE, jobs, shut=(0,)), "m1")
        self.assertEqual((deeds, after.shut), ([("move", "j", (0, 0, 2))], (0,)))
        self.assertEqual(self.ask(after, "m1")[1], [])

    def test_plans_stay_if_none_is_on_the_machine(self):
        jobs = [firm("f", (0, 9, (0, 1, 1)))]
        after, deeds = self.ask(state(CLUSTER, FREE, jobs, down=(1,)), "m1")
        self.assertEqual((deeds, after["f"].plan), ([("shut", 0)], ((0, 9, (0, 1, 1)),)))

    def test_plans_are_planned_beside_the_moved_jobs(self):
        # j moves to m3, and runs there to hour 7: the plan of hour 6 goes to m2, that of hour 8 to m3.
        for hour, place in ((6, (0, 2, 0)), (8, (0, 0, 2))):
            jobs = [job("j", A, (2, 0, 0)), firm("f", (0, hour, (2, 0, 0)))]
            after, deeds = self.ask(state(CLUSTER, FREE, jobs, hour=4), "m1")
            self.assertEqual(deeds, [("move", "j", (0, 0, 2)), ("plan", "f", ((0, hour, place),)), ("shut", 0)])

    def test_the_settling_follows(self):
        jobs = [job("j", A, (2, 0, 0)), job("k", F)]
        after, deeds = self.ask(state(CLUSTER, FREE, jobs, shut=(0,), windows=((1, 9, 10),)), "m2")
        self.assertEqual(deeds, [("shut", 1)])
        jobs = [job("j", E), job("k", A, (0, 0, 2))]
        after, deeds = self.ask(state(CLUSTER, FREE, jobs), "m3")
        self.assertEqual(deeds, [("move", "k", (0, 2, 0)), ("shut", 2), ("start", "j", (1, 0, 0))])

    def test_no_list_of_moves(self):
        before = state(CLUSTER, FREE, [job("j", E, (1, 0, 0)), firm("f", (0, 9, (2, 0, 0)))])
        noted = before.note()
        with self.assertRaises(NoRoom) as caught:
            drain(before, "m1")
        self.assertIsInstance(caught.exception.subject, Stuck)
        self.assertEqual(caught.exception.subject.note(), ("stuck", 0, (((1, 0, 0),),)))
        self.assertEqual(before.note(), noted)

    def test_no_room_for_the_plans(self):
        one = firm("f", (0, 9, (1, 0, 0)), template=E)
        before = state(CLUSTER, FREE, [job("j", A, (2, 0, 0)), one])
        noted = before.note()
        with self.assertRaises(NoRoom) as caught:
            drain(before, "m1")
        self.assertIsInstance(caught.exception.subject, CaseTree)
        self.assertEqual(caught.exception.subject.node, ("short", ((0, "barred"), (0, "needs"), (0, "needs"))))
        self.assertEqual(before.note(), noted)

    def test_shut_and_down_machines_get_no_plans(self):
        one = firm("f", (0, 9, (2, 0, 0)))
        for down, shut in (((1,), ()), ((), (1,))):
            deeds = self.ask(state(CLUSTER, FREE, [one], down=down, shut=shut), "m1")[1]
            self.assertEqual(deeds, [("plan", "f", ((0, 9, (0, 0, 2)),)), ("shut", 0)])
        # A plan on a machine that is shut keeps its place, one on m1 does not.
        jobs = [firm("f", (0, 9, (0, 2, 0))), firm("h", (0, 9, (2, 0, 0)))]
        self.assertEqual(self.ask(state(CLUSTER, FREE, jobs, shut=(0, 1)), "m1")[1], [("plan", "h", ((0, 9, (0, 0, 2)),))])

    def test_the_order_of_the_errors(self):
        made = read_cluster("resources core\nmachine m1 zone y has 6\nmachine m2 zone z has 6\nmachine m3 zone z has 6\n"
                            "group g under - weight 1 floor 0\ntemplate d group g rank 1 every 0 stage 6 of 1 for 9")
        wide = [job(f"j{at}", 0, (2, 2, 2)) for at in range(3)]
        self.refuse(Unknown, "x", state(made, FREE, wide, down=(0,)), "x")
        self.refuse(NoChange, "m1", state(made, FREE, wide, down=(0,)), "m1")
        self.refuse(TooWide, 4096, state(made, FREE, wide), "m1")
        plans = [firm(f"f{at}", (0, 10 + 9 * at, (6, 0, 0))) for at in range(5)]
        with self.assertRaises(NoRoom) as caught:
            drain(state(made, FREE, [job("j", 0, (6, 0, 0)), *plans], shut=(1, 2)), "m1")
        self.assertIsInstance(caught.exception.subject, Stuck)
        self.refuse(TooWide, 4096, state(made, FREE, plans), "m1")
        self.assertEqual(self.ask(state(made, FREE, plans), "m2")[1], [("shut", 1)])


class RandomTest(unittest.TestCase):
    def plain_moves(self, before, at):
        """All lists of moves, level by level: the first that empties the machine, or all places."""
        runs = [one.name for one in before if one.place]
        level, seen = [(before, ())], {self.places(before)}
        while level:
            for now, moves in level:
                if not any(one.place and one.place[at] for one in now):
                    return ("moves", at, moves)
            behind = []
            for now, moves in level:
                for name in runs:
                    for row in rows(sum(now[name].place), len(now.cluster.machines)):
                        if allowed(now, name, row, (at,)):
                            after = moved(now, name, row, (at,))
                            if self.places(after) not in seen:
                                seen.add(self.places(after))
                                behind.append((after, (*moves, (name, row))))
            level = behind
        return ("stuck", at, tuple(sorted(seen)))

    def places(self, now):
        return tuple(one.place for one in now if one.place)

    def test_random_states(self):
        met = {"moves": 0, "stuck": 0, "drained": 0}
        for seed in range(110):
            dice = random.Random(seed)
            for _, _, after, _ in list(random_book(dice, 20, ROUGH, random_cluster(dice, True)))[-2:]:
                at = dice.randrange(len(after.cluster.machines))
                name = after.cluster.machines[at].name
                try:
                    found = move_plan(after, name).note()
                except TooWide:
                    continue
                if found[0] == "stuck" and len(found[2]) > 60:
                    continue
                self.assertEqual(found, self.plain_moves(after, at))
                met[found[0]] += bool(found[2])
                met["drained"] += self.check_drain(after, name)
        self.assertGreater(min(met.values()), 5)

    def check_drain(self, before, name):
        """After a drain a failure and a repair of the machine change neither the jobs nor the windows."""
        try:
            after, deeds = drain(before, name)
        except GangError:
            return False
        self.assertEqual([one.ran for one in after], [one.ran for one in before])
        failed, told = fail(after, name)
        again, more = repair(failed, name)
        self.assertEqual((again.note()[5:], failed.note()[5:]), (after.note()[5:], after.note()[5:]))
        self.assertEqual([len(told), len(more)], [1, 1])
        return True


class CertificateTest(unittest.TestCase):
    def test_notes(self):
        found = move_plan(state(CLUSTER, FREE, [job("j", A, (1, 1, 0))]), "m1")
        self.assertEqual(found.note(), ("moves", 0, (("j", (0, 0, 2)),)))
        self.assertEqual(read_note(write_note(found.note())), found.note())
        found = move_plan(state(CLUSTER, FREE, [job("j", E, (1, 0, 0))]), "m1")
        self.assertEqual(found.note(), ("stuck", 0, (((1, 0, 0),),)))
        self.assertEqual(read_note(write_note(found.note())), found.note())

    def test_kinds(self):
        for kind, word, other, made in ((MovePlan, Yes, No, MovePlan(0, ())), (Stuck, No, Yes, Stuck(0, ()))):
            self.assertTrue(issubclass(kind, Certificate) and issubclass(kind, word) and not issubclass(kind, other))
            self.assertIs(made.holds(), word is Yes)

    def test_arguments_are_stored_as_they_are(self):
        made = MovePlan(-7, (("x",), 3))
        self.assertEqual((made.machine, made.moves, made.note()), (-7, (("x",), 3), ("moves", -7, (("x",), 3))))
        made = Stuck(-7, ((3,),))
        self.assertEqual((made.machine, made.places, made.note()), (-7, ((3,),), ("stuck", -7, ((3,),))))


if __name__ == "__main__":
    unittest.main()
