"""Points 21 to 23: what groups use, levels, owed gangs and limits."""

import random
import unittest
from fractions import Fraction

from gangbooks.amounts import Amounts
from gangbooks.cluster import Cluster
from gangbooks.shares import Share
from gangbooks.usage import level, owed, stopped, used_by

# top > mid > low > leaf, four deep; side is a leaf below mid, other a top group and a leaf.
GROUPS = [
    ("top", "", 2, (10, 8), (20, 20)),
    ("mid", "top", 3, (6, 4), None),
    ("low", "mid", 1, (4, 4), (9, 9)),
    ("leaf", "low", 5, (2, 2), (8, 9)),
    ("side", "mid", 1, (0, 0), None),
    ("other", "", 7, (1, 0), None),
]
TEMPLATES = [
    ("a", "leaf", 0, 0, ((2, (1, 2), 3), (1, (5, 0), 1)), ()),
    ("b", "side", 0, 0, ((1, (3, 1), 3),), ()),
    ("c", "other", 0, 0, ((3, (1, 0), 3),), ()),
]
DEEP = Cluster(["core", "mem"], [("m1", "z", (), (30, 10)), ("m2", "z", (), (10, 10))], GROUPS, TEMPLATES)


def numbers(used):
    return [amounts.numbers for amounts in used]


def used_of(*rows):
    return [Amounts(*row) for row in rows]


def single(many=1, floor=None, limit=None, machine=None, weight=1):
    """A cluster with one top group, and a template a with one task of one core."""
    floor = floor or (0,) * many
    return Cluster(["r1", "r2", "r3"][:many], [("m", "z", (), machine or (9999,) * many)], [("g", "", weight, floor, limit)],
                   [("a", "g", 0, 0, ((1, (1,) + (0,) * (many - 1), 1),), ())])


class UsedTest(unittest.TestCase):
    def test_no_gangs(self):
        self.assertEqual(numbers(used_by(DEEP, [])), [(0, 0)] * 6)
        self.assertEqual(numbers(used_by(single(3), [])), [(0, 0, 0)])

    def test_a_gang_counts_in_its_group_and_in_those_above(self):
        self.assertEqual(numbers(used_by(DEEP, [(0, 0)])), [(2, 4)] * 4 + [(0, 0)] * 2)
        self.assertEqual(numbers(used_by(DEEP, [(0, 1)])), [(5, 0)] * 4 + [(0, 0)] * 2)
        self.assertEqual(numbers(used_by(DEEP, [(1, 0)])), [(3, 1), (3, 1), (0, 0), (0, 0), (3, 1), (0, 0)])
        self.assertEqual(numbers(used_by(DEEP, [(2, 0)])), [(0, 0)] * 5 + [(3, 0)])

    def test_a_gang_that_occurs_several_times_counts_several_times(self):
        self.assertEqual(numbers(used_by(DEEP, [(2, 0), (2, 0), (2, 0)]))[5], (9, 0))
        gangs = [(0, 0), (1, 0), (0, 0), (0, 1), (2, 0)]
        self.assertEqual(numbers(used_by(DEEP, gangs)), [(12, 9), (12, 9), (9, 8), (9, 8), (3, 1), (3, 0)])

    def test_kinds_and_what_is_passed_in(self):
        gangs = [(0, 0), (0, 0)]
        used = used_by(DEEP, gangs)
        self.assertIsInstance(used, list)
        self.assertTrue(all(isinstance(amounts, Amounts) for amounts in used))
        self.assertEqual(gangs, [(0, 0), (0, 0)])
        used.clear()
        self.assertEqual(len(used_by(DEEP, gangs)), 6)

    def test_random_gangs(self):
        dice = random.Random(21)
        for _ in range(50):
            gangs = [dice.choice([(0, 0), (0, 1), (1, 0), (2, 0)]) for _ in range(dice.randrange(8))]
            used = used_by(DEEP, gangs)
            for at, group in enumerate(DEEP.groups):
                inside = [gang for gang in gangs if at in DEEP.groups[DEEP.templates[gang[0]].group].path]
                for k in range(2):
                    self.assertEqual(used[at][k], sum(DEEP.stage_of(gang).total[k] for gang in inside))


class LevelTest(unittest.TestCase):
    def test_the_greatest_quotient_divided_by_the_weight(self):
        # The cluster has 40 and 20 in all.
        used = used_of((10, 4), (4, 10), (8, 4), (0, 0), (40, 20), (21, 10))
        found = [level(DEEP, group, used) for group in range(6)]
        self.assertTrue(all(isinstance(share, Share) for share in found))
        self.assertEqual([share.text() for share in found], ["1/8", "1/6", "1/5", "0", "1", "3/40"])

    def test_more_than_there_is(self):
        self.assertEqual(level(DEEP, 0, used_of((100, 0), *[(0, 0)] * 5)).text(), "5/4")

    def test_a_resource_of_which_the_cluster_has_none_does_not_matter(self):
        made = Cluster(["r1", "r2", "r3"], [("m1", "z", (), (0, 4, 0)), ("m2", "z", (), (0, 0, 6))],
                       [("g", "", 3, (0, 0, 0), None)], [("a", "g", 0, 0, ((1, (1, 0, 0), 1),), ())])
        self.assertEqual(level(made, 0, used_of((1000, 1, 1))).text(), "1/12")
        self.assertEqual(level(made, 0, used_of((1000, 1, 3))).text(), "1/6")
        self.assertEqual(level(made, 0, used_of((1000, 0, 0))).text(), "0")

    def test_a_cluster_with_one_unit(self):
        self.assertEqual(level(single(2, machine=(1, 9)), 0, used_of((1, 0))).text(), "1")

    def test_great_numbers(self):
        self.assertEqual(level(single(weight=99), 0, used_of((10 ** 29,))), Share(10 ** 29, 9999 * 99))

    def test_random(self):
        dice = random.Random(22)
        for _ in range(100):
            used = used_of(*[(dice.randrange(60), dice.randrange(60)) for _ in range(6)])
            for group in range(6):
                found = level(DEEP, group, used)
                wanted = max(Fraction(used[group][0], 40), Fraction(used[group][1], 20)) / DEEP.groups[group].weight
                self.assertEqual(Fraction(found.top, found.bottom), wanted)


class OwedTest(unittest.TestCase):
    def test_just_within_the_floor_of_the_top_group_and_one_more(self):
        rest = [(0, 0)] * 5
        self.assertIs(owed(DEEP, used_of((8, 4), *rest), (0, 0)), True)
        self.assertIs(owed(DEEP, used_of((9, 4), *rest), (0, 0)), False)
        self.assertIs(owed(DEEP, used_of((8, 5), *rest), (0, 0)), False)
        self.assertIs(owed(DEEP, used_of((5, 8), *rest), (0, 1)), True)
        self.assertIs(owed(DEEP, used_of((5, 9), *rest), (0, 1)), False)

    def test_only_the_top_group_matters(self):
        self.assertIs(owed(DEEP, used_of((0, 0), *[(99, 99)] * 5), (0, 0)), True)
        self.assertIs(owed(DEEP, used_of((99, 99), *[(0, 0)] * 5), (1, 0)), False)
        # The gang alone is above the floor of its own group, and of the next one.
        self.assertIs(owed(DEEP, used_of(*[(0, 0)] * 6), (1, 0)), True)

    def test_a_floor_of_nothing(self):
        self.assertIs(owed(DEEP, used_of(*[(0, 0)] * 6), (2, 0)), False)
        self.assertIs(owed(single(), used_of((0,)), (0, 0)), False)
        self.assertIs(owed(single(floor=(1,)), used_of((0,)), (0, 0)), True)
        self.assertIs(owed(single(floor=(1,)), used_of((1,)), (0, 0)), False)


class StoppedTest(unittest.TestCase):
    def test_just_within_the_limit_and_one_more(self):
        rows = [(18, 16), (99, 99), (7, 5), (6, 5), (0, 0), (0, 0)]
        self.assertIsNone(stopped(DEEP, used_of(*rows), (0, 0)))
        for at, row, wanted in ((0, (19, 16), (0, 0)), (0, (18, 17), (0, 1)), (2, (8, 5), (2, 0)), (2, (7, 6), (2, 1)),
                                (3, (7, 5), (3, 0)), (3, (6, 6), (3, 1))):
            used = used_of(*[row if k == at else other for k, other in enumerate(rows)])
            self.assertEqual(stopped(DEEP, used, (0, 0)), wanted)
            self.assertIsInstance(stopped(DEEP, used, (0, 0)), tuple)

    def test_the_first_group_from_the_leaf_up_and_its_first_resource(self):
        full = [(99, 99)] * 6
        self.assertEqual(stopped(DEEP, used_of(*full), (0, 0)), (3, 0))
        self.assertEqual(stopped(DEEP, used_of(*full[:3], (0, 0), *full[4:]), (0, 0)), (2, 0))
        self.assertEqual(stopped(DEEP, used_of(*full[:3], (0, 99), *full[4:]), (0, 0)), (3, 1))
        self.assertEqual(stopped(DEEP, used_of(*full[:2], (0, 0), (0, 0), *full[4:]), (0, 0)), (0, 0))
        self.assertEqual(stopped(DEEP, used_of((0, 99), *[(0, 0)] * 5), (0, 0)), (0, 1))
        self.assertEqual(stopped(DEEP, used_of(*full), (1, 0)), (0, 0))

    def test_groups_beside_the_path_and_groups_without_a_limit_do_not_stop(self):
        self.assertIsNone(stopped(DEEP, used_of((0, 0), (99, 99), (99, 99), (99, 99), (99, 99), (0, 0)), (1, 0)))
        self.assertIsNone(stopped(DEEP, used_of(*[(99, 99)] * 6), (2, 0)))

    def test_a_gang_that_is_above_the_limit_alone(self):
        made = single(3, limit=(0, 0, 0))
        self.assertEqual(stopped(made, used_of((0, 0, 0)), (0, 0)), (0, 0))
        made = single(3, limit=(1, 0, 0))
        self.assertIsNone(stopped(made, used_of((0, 0, 0)), (0, 0)))

    def test_a_resource_of_which_the_gang_needs_nothing(self):
        self.assertEqual(stopped(single(2, limit=(5, 5)), used_of((0, 6)), (0, 0)), (0, 1))

    def test_nothing_is_changed(self):
        used = used_of(*[(9, 9)] * 6)
        before = numbers(used)
        level(DEEP, 0, used), owed(DEEP, used, (0, 0)), stopped(DEEP, used, (0, 0))
        self.assertEqual(numbers(used), before)


if __name__ == "__main__":
    unittest.main()
