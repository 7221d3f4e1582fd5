"""Points 35 and 36: whose turn it is."""

import itertools
import random
import unittest
from fractions import Fraction

from gangbooks.amounts import Amounts
from gangbooks.cluster import Cluster
from gangbooks.picks import pick, precedence
from gangbooks.policy import Policy
from gangbooks.state import Job

AGE, RANK, SHORT, SHARE = [Policy(order, "first", "any", "free") for order in ("age", "rank", "short", "share")]


def cluster(groups, templates, amounts=(20, 20)):
    """A cluster from groups (name, parent, weight, floor) and templates (group, rank, stages)."""
    return Cluster(["core", "mem"][:len(amounts)], [("m", "z", (), amounts)], [(*group, None) for group in groups],
                   [("abcdefgh"[at], group, rank, 1, stages, ()) for at, (group, rank, stages) in enumerate(templates)])


# Two equal top groups; right has two leaves below it.
TREE = cluster(
    [("left", "", 1, (4, 4)), ("right", "", 1, (4, 4)), ("one", "right", 1, (2, 2)), ("two", "right", 2, (2, 2))],
    [("left", 5, ((1, (2, 1), 4), (1, (1, 0), 9))), ("one", 5, ((2, (1, 0), 3),)), ("two", 7, ((1, (2, 0), 6),)),
     ("left", 7, ((1, (3, 0), 2),)), ("one", 5, ((1, (1, 1), 3),)), ("two", 7, ((1, (1, 0), 6),))])


def used_of(*rows):
    return [Amounts(*row) for row in rows]


def jobs_of(*templates):
    return [Job(f"j{at}", template) for at, template in enumerate(templates)]


NOTHING = used_of(*[(0, 0)] * 4)


class AgeTest(unittest.TestCase):
    def test_the_oldest(self):
        for templates in ((0,), (0, 1, 2), (2, 1, 0), (0, 0, 3)):
            self.assertEqual(pick(TREE, AGE, NOTHING, jobs_of(*templates)), 0)

    def test_the_order_of_the_list_counts(self):
        jobs = [Job("b", 0, 7), Job("a", 0, 7)]
        self.assertEqual(pick(TREE, AGE, NOTHING, jobs), 0)


class RankTest(unittest.TestCase):
    def test_the_greatest_rank(self):
        self.assertEqual(pick(TREE, RANK, NOTHING, jobs_of(0, 1, 2)), 2)
        self.assertEqual(pick(TREE, RANK, NOTHING, jobs_of(0, 3, 1)), 1)
        self.assertEqual(pick(TREE, RANK, NOTHING, jobs_of(2, 0)), 0)

    def test_the_oldest_of_equal_ones(self):
        self.assertEqual(pick(TREE, RANK, NOTHING, jobs_of(0, 3, 2, 3)), 1)
        self.assertEqual(pick(TREE, RANK, NOTHING, jobs_of(0, 1, 0)), 0)


class ShortTest(unittest.TestCase):
    def test_the_fewest_hours_left(self):
        self.assertEqual(pick(TREE, SHORT, NOTHING, jobs_of(0, 1, 2)), 1)
        self.assertEqual(pick(TREE, SHORT, NOTHING, jobs_of(2, 3, 1)), 1)

    def test_work_that_is_done_and_stages_count(self):
        self.assertEqual(pick(TREE, SHORT, NOTHING, [Job("x", 0), Job("y", 2, done=3)]), 1)
        self.assertEqual(pick(TREE, SHORT, NOTHING, [Job("x", 0), Job("y", 2, done=2)]), 0)
        self.assertEqual(pick(TREE, SHORT, NOTHING, [Job("x", 0, stage=1), Job("y", 2)]), 1)
        self.assertEqual(pick(TREE, SHORT, NOTHING, [Job("x", 0, stage=1, done=4), Job("y", 2)]), 0)

    def test_the_oldest_of_equal_ones(self):
        self.assertEqual(pick(TREE, SHORT, NOTHING, jobs_of(0, 1, 4, 1)), 1)
        self.assertEqual(pick(TREE, SHORT, NOTHING, jobs_of(2, 5)), 0)


class ShareTest(unittest.TestCase):
    def test_one_job(self):
        for template in range(6):
            self.assertEqual(pick(TREE, SHARE, NOTHING, jobs_of(template)), 0)
            self.assertEqual(pick(TREE, SHARE, used_of(*[(99, 99)] * 4), jobs_of(template)), 0)

    def test_the_least_level(self):
        # All are above their floors; left has the greater level.
        used = used_of((9, 4), (8, 4), (4, 4), (4, 4))
        self.assertEqual(pick(TREE, SHARE, used, jobs_of(0, 1)), 1)
        self.assertEqual(pick(TREE, SHARE, used_of((8, 4), (9, 4), (4, 4), (4, 4)), jobs_of(1, 0)), 1)
        # The greatest quotient of a group counts.
        self.assertEqual(pick(TREE, SHARE, used_of((5, 10), (9, 4), (4, 4), (4, 4)), jobs_of(0, 1)), 1)

    def test_groups_with_the_same_level(self):
        used = used_of((8, 8), (8, 8), (4, 4), (8, 4))
        self.assertEqual(pick(TREE, SHARE, used, jobs_of(1, 0)), 1)
        self.assertEqual(pick(TREE, SHARE, used, jobs_of(2, 1)), 1)

    def test_weights(self):
        # The used amounts of two may be twice those of one.
        self.assertEqual(pick(TREE, SHARE, used_of((9, 0), (8, 8), (4, 4), (7, 4)), jobs_of(1, 2)), 1)
        self.assertEqual(pick(TREE, SHARE, used_of((9, 0), (8, 8), (4, 4), (9, 4)), jobs_of(1, 2)), 0)

    def test_only_groups_of_the_jobs_are_chosen(self):
        used = used_of((9, 9), (20, 20), (20, 20), (0, 0))
        self.assertEqual(pick(TREE, SHARE, used, jobs_of(1)), 0)
        self.assertEqual(pick(TREE, SHARE, used, jobs_of(1, 1)), 0)

    def test_owed_jobs_come_first(self):
        # left is below its floor, but its job is not just within it; right has less.
        used = used_of((2, 0), (1, 0), (1, 0), (0, 0))
        self.assertEqual(pick(TREE, SHARE, used, jobs_of(0, 1)), 1)
        # right has more than its floor and the lesser level by its weight, left is owed.
        made = cluster([("left", "", 1, (4, 4)), ("right", "", 9, (4, 4))], [("left", 0, ((1, (2, 0), 1),)), ("right", 9, ((1, (2, 0), 1),))])
        for number, wanted in ((1, 1), (2, 1), (3, 0)):
            self.assertEqual(pick(made, SHARE, used_of((number, 0), (4, 0)), jobs_of(1, 0)), wanted)

    def test_just_within_the_floor_and_one_more(self):
        made = cluster([("left", "", 1, (4, 4)), ("right", "", 99, (0, 0))],
                       [("left", 0, ((1, (2, 1), 1),)), ("right", 0, ((1, (1, 0), 1),))])
        for used, wanted in (((2, 3), 1), ((3, 3), 0), ((2, 4), 0), ((0, 0), 1)):
            self.assertEqual(pick(made, SHARE, used_of(used, (9, 9)), jobs_of(1, 0)), wanted)

    def test_owed_in_one_group_and_not_in_another(self):
        # By the floor of right both are owed; below it only the job of two is.
        made = cluster([("right", "", 1, (9, 9)), ("one", "right", 50, (2, 2)), ("two", "right", 1, (4, 4))],
                       [("one", 9, ((1, (1, 0), 1),)), ("two", 1, ((1, (1, 0), 1),))])
        self.assertEqual(pick(made, SHARE, used_of((5, 0), (2, 0), (3, 0)), jobs_of(0, 1)), 1)
        self.assertEqual(pick(made, SHARE, used_of((6, 0), (2, 0), (4, 0)), jobs_of(0, 1)), 0)
        # The job of one is owed below right, but its total is above the floor of right: it does not stay.
        made = cluster([("right", "", 1, (6, 6)), ("one", "right", 50, (3, 3)), ("two", "right", 1, (3, 3))],
                       [("one", 9, ((1, (2, 0), 1),)), ("two", 1, ((1, (1, 0), 1),))])
        self.assertEqual(pick(made, SHARE, used_of((5, 0), (0, 0), (5, 0)), jobs_of(0, 1)), 1)

    def test_jobs_of_one_group_are_narrowed_too(self):
        # Only the small job of the leaf is within the floor, whatever the ranks.
        made = cluster([("g", "", 1, (4, 4))], [("g", 9, ((1, (3, 0), 1),)), ("g", 1, ((1, (2, 0), 1),))])
        self.assertEqual(pick(made, SHARE, used_of((2, 0)), jobs_of(0, 1)), 1)
        self.assertEqual(pick(made, SHARE, used_of((1, 0)), jobs_of(0, 1)), 0)
        self.assertEqual(pick(made, SHARE, used_of((3, 0)), jobs_of(1, 0)), 1)

    def test_the_greatest_rank_in_a_leaf_then_the_oldest(self):
        used = used_of(*[(0, 0)] * 4)
        self.assertEqual(pick(TREE, SHARE, used, jobs_of(0, 3, 0, 3)), 1)
        self.assertEqual(pick(TREE, SHARE, used, jobs_of(0, 0)), 0)
        self.assertEqual(pick(TREE, SHARE, used_of((20, 20), (0, 0), (0, 0), (9, 9)), jobs_of(0, 4, 1, 2)), 1)

    def test_four_deep(self):
        groups = [("a", "", 1, (9, 9)), ("b", "a", 1, (9, 9)), ("c", "b", 1, (9, 9)), ("d", "c", 1, (2, 2)), ("e", "c", 1, (3, 3))]
        made = cluster(groups, [("d", 9, ((1, (1, 0), 1),)), ("e", 1, ((1, (1, 0), 1),))])
        self.assertEqual(pick(made, SHARE, used_of((4, 0), (4, 0), (4, 0), (2, 0), (2, 0)), jobs_of(0, 1)), 1)
        self.assertEqual(pick(made, SHARE, used_of((2, 0), (2, 0), (2, 0), (1, 0), (1, 0)), jobs_of(1, 0)), 1)


def plain_pick(made, order, used, jobs):
    """Point 35, word by word, with fractions."""
    rank = [made.templates[job.template].rank for job in jobs]
    if order == "age":
        return 0
    if order == "rank":
        return rank.index(max(rank))
    if order == "short":
        hours = [made.stage_of((job.template, job.stage)).hours - job.done for job in jobs]
        return hours.index(min(hours))
    left = list(range(len(jobs)))
    for depth in range(4):
        paths = {at: made.groups[made.templates[jobs[at].template].group].path for at in left}
        owed = [at for at in left if used[paths[at][depth]] + made.stage_of((jobs[at].template, jobs[at].stage)).total
                in made.groups[paths[at][depth]].floor]
        left = owed or left

        def height(group):
            return max(Fraction(one, two) for one, two in zip(used[group], made.total) if two) / made.groups[group].weight

        chosen = min((height(paths[at][depth]), paths[at][depth]) for at in left)[1]
        left = [at for at in left if paths[at][depth] == chosen]
        if made.groups[chosen].leaf:
            return max(left, key=lambda at: (rank[at], -at))
    raise AssertionError


def plain_precedence(made, order, used, jobs):
    left, used, found = list(range(len(jobs))), list(used), []
    while left:
        at = left[plain_pick(made, order, used, [jobs[k] for k in left])]
        left.remove(at)
        found.append(at)
        for group in made.groups[made.templates[jobs[at].template].group].path:
            used[group] = used[group] + made.stage_of((jobs[at].template, jobs[at].stage)).total
    return found


class PrecedenceTest(unittest.TestCase):
    def test_an_empty_list(self):
        for policy in (AGE, RANK, SHORT, SHARE):
            self.assertEqual(precedence(TREE, policy, NOTHING, []), [])

    def test_orders(self):
        jobs = jobs_of(0, 1, 2, 3, 4)
        self.assertEqual(precedence(TREE, AGE, NOTHING, jobs), [0, 1, 2, 3, 4])
        self.assertEqual(precedence(TREE, RANK, NOTHING, jobs), [2, 3, 0, 1, 4])
        self.assertEqual(precedence(TREE, SHORT, NOTHING, jobs), [3, 1, 4, 0, 2])
        self.assertIsInstance(precedence(TREE, SHARE, NOTHING, jobs), list)

    def test_picked_jobs_count_as_used(self):
        made = cluster([("g", "", 1, (0, 0)), ("h", "", 2, (0, 0))], [("g", 0, ((1, (1, 0), 1),)), ("h", 0, ((1, (1, 0), 1),))])
        # The levels after each: g 1, h 1/2, h 1, g 2, h 3/2, h 2.
        self.assertEqual(precedence(made, SHARE, used_of((0, 0), (0, 0)), jobs_of(0, 0, 0, 1, 1, 1, 1)), [0, 3, 4, 1, 5, 6, 2])

    def test_what_is_passed_in_is_unchanged(self):
        used, jobs = used_of((1, 1), (2, 2), (1, 1), (1, 1)), jobs_of(0, 1, 2)
        before = list(jobs)
        for policy in (AGE, RANK, SHORT, SHARE):
            precedence(TREE, policy, used, jobs).clear()
            pick(TREE, policy, used, jobs)
        self.assertEqual(jobs, before)
        self.assertEqual(used, used_of((1, 1), (2, 2), (1, 1), (1, 1)))

    def test_random(self):
        dice = random.Random(36)
        for _ in range(300):
            made = self.random_cluster(dice)
            jobs = []
            for at in range(dice.randrange(1, 7)):
                template = dice.randrange(len(made.templates))
                stage = dice.randrange(len(made.templates[template].stages))
                jobs.append(Job(f"j{at}", template, stage=stage, done=dice.randrange(made.stage_of((template, stage)).hours)))
            used = used_of(*[(dice.randrange(7), dice.randrange(7)) for _ in made.groups])
            for policy in (AGE, RANK, SHORT, SHARE):
                self.assertEqual(pick(made, policy, used, jobs), plain_pick(made, policy.order, used, jobs))
                self.assertEqual(precedence(made, policy, used, jobs), plain_precedence(made, policy.order, used, jobs))

    def random_cluster(self, dice):
        groups = []
        for at in range(dice.randrange(1, 9)):
            parents = [row for row in groups if row[4] < 3]
            parent = dice.choice(parents) if parents and dice.random() < 0.6 else None
            name = parent[0] if parent else ""
            room = [(parent[3][k] if parent else 30) - sum(row[3][k] for row in groups if row[1] == name) for k in range(2)]
            groups.append((f"g{at}", name, dice.choice([1, 1, 2, 3]), tuple(dice.randint(0, min(number, 8)) for number in room),
                           parent[4] + 1 if parent else 0))
        leaves = [row[0] for row in groups if row[0] not in [other[1] for other in groups]]
        amounts = list(itertools.product(range(4), repeat=2))[1:]
        return cluster([row[:4] for row in groups],
                       [(dice.choice(leaves), dice.randrange(3), tuple((dice.randrange(1, 3), dice.choice(amounts), dice.randrange(1, 5))
                                                                       for _ in range(dice.randrange(1, 3))))
                        for _ in range(dice.randrange(1, 7))], dice.choice([(30, 30), (30, 60)]))


if __name__ == "__main__":
    unittest.main()
