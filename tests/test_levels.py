"""Points 24 to 26: wanted amounts and fair shares."""

import random
import unittest
from fractions import Fraction

from gangbooks.cluster import Cluster
from gangbooks.errors import BadAmounts, Unknown
from gangbooks.levels import Levels, Wants, fair
from gangbooks.notes import Certificate, No, Yes, read_note, write_note
from gangbooks.shares import Share
from tests.support import refuse

# lab has art (with oil and ink below it) and bio; pub is a leaf on top.
TREE = [
    ("lab", "", 2, (6, 0), (20, 50)),
    ("art", "lab", 1, (4, 0), None),
    ("oil", "art", 3, (3, 0), (5, 50)),
    ("pub", "", 1, (2, 0), None),
    ("ink", "art", 1, (0, 0), None),
    ("bio", "lab", 2, (1, 0), (7, 50)),
]


def cluster_of(groups, leaf):
    """A cluster with these groups, with more of each resource than their floors need."""
    many = len(groups[0][3])
    return Cluster(["core", "mem", "net"][:many], [("m", "z", (), (9999,) * many), ("n", "z", (), (9999,) * many)], groups,
                   [("a", leaf, 0, 0, ((1, (1,) * many, 1),), ())])


CLUSTER = cluster_of(TREE, "oil")


def flat(*rows):
    """A cluster of top groups (weight, floor, limit)."""
    return cluster_of([("abcdefgh"[at], "", weight, (floor,), None if limit is None else (limit,))
                       for at, (weight, floor, limit) in enumerate(rows)], "a")


def divide(rows, wanted, amount):
    """The Levels of top groups (weight, floor, limit) with these wanted amounts."""
    wants = Wants(flat(*rows), 0)
    for name, number in zip("abcdefgh", wanted):
        wants[name] = number
    return fair(wants, amount)


def texts(shares):
    return " ".join("-" if share is None else share.text() for share in shares)


def fraction(share):
    return Fraction(share.top, share.bottom)


class WantsTest(unittest.TestCase):
    def setUp(self):
        self.wants = Wants(CLUSTER, 0)

    def test_at_first_all_leaves_want_0(self):
        self.assertEqual(list(self.wants), [("oil", 0), ("pub", 0), ("ink", 0), ("bio", 0)])
        self.assertTrue(all(isinstance(pair, tuple) for pair in self.wants))
        self.assertEqual(self.wants["ink"], 0)

    def test_assign_and_put(self):
        self.wants["bio"] = 7
        self.assertIsNone(self.wants.put("oil", 10 ** 9))
        self.wants["pub"] = 3
        self.wants["pub"] = 4
        self.wants.put("bio", 0)
        self.wants["bio"] += 5
        self.assertEqual(list(self.wants), [("oil", 10 ** 9), ("pub", 4), ("ink", 0), ("bio", 5)])
        self.assertEqual([self.wants[name] for name in ("oil", "pub", "ink", "bio")], [10 ** 9, 4, 0, 5])

    def test_names_of_no_leaf(self):
        for name in ("lab", "art", "x", "", "Oil", "a", "m"):
            refuse(self, Unknown, name, lambda: self.wants[name])
            refuse(self, Unknown, name, self.wants.put, name, 1)
            refuse(self, Unknown, name, self.wants.__setitem__, name, 1)

    def test_negative_amounts(self):
        for amount in (-1, -(10 ** 9)):
            refuse(self, BadAmounts, (amount,), self.wants.put, "oil", amount)
            refuse(self, BadAmounts, (amount,), self.wants.__setitem__, "oil", amount)
        self.assertEqual(self.wants["oil"], 0)

    def test_unknown_comes_before_bad_amounts(self):
        refuse(self, Unknown, "lab", self.wants.put, "lab", -1)
        refuse(self, Unknown, "x", self.wants.__setitem__, "x", -1)

    def test_an_error_changes_nothing(self):
        self.wants["oil"] = 4
        refuse(self, BadAmounts, (-4,), self.wants.put, "oil", -4)
        refuse(self, Unknown, "lab", self.wants.put, "lab", 4)
        self.assertEqual(list(self.wants), [("oil", 4), ("pub", 0), ("ink", 0), ("bio", 0)])

    def test_what_is_returned_may_be_changed(self):
        rows = list(self.wants)
        rows.clear()
        self.assertEqual(len(list(self.wants)), 4)

    def test_two_tables_have_nothing_in_common(self):
        other = Wants(CLUSTER, 0)
        self.wants["oil"] = 4
        self.assertEqual(other["oil"], 0)


class DivisionTest(unittest.TestCase):
    def check(self, rows, wanted, amount, mode, level, shares):
        found = divide(rows, wanted, amount)
        self.assertEqual(found.rows[0][:2], (-1, mode))
        self.assertEqual((texts([found.rows[0][2]]), texts(found.shares)), (level, shares))

    def test_all(self):
        rows = [(1, 0, None), (5, 3, None)]
        self.check(rows, (2, 4), 6, "all", "-", "2 4")
        self.check(rows, (2, 4), 7, "all", "-", "2 4")
        self.check(rows, (0, 0), 0, "all", "-", "0 0")
        self.check(rows, (0, 0), 9, "all", "-", "0 0")
        self.check(rows, (2, 4), Share(13, 2), "all", "-", "2 4")

    def test_from_all_to_above(self):
        rows = [(1, 1, None), (1, 3, None)]
        self.check(rows, (4, 4), 8, "all", "-", "4 4")
        self.check(rows, (4, 4), Share(15, 2), "above", "15/4", "15/4 15/4")
        self.check(rows, (4, 4), 7, "above", "7/2", "7/2 7/2")
        self.check(rows, (4, 4), 6, "above", "3", "3 3")
        # From here on the second group has its claim alone.
        self.check(rows, (4, 4), 5, "above", "2", "2 3")

    def test_from_above_to_below(self):
        rows = [(1, 1, None), (1, 3, None)]
        self.check(rows, (4, 4), Share(9, 2), "above", "3/2", "3/2 3")
        # Just the claims: the least level is 0, not 1.
        self.check(rows, (4, 4), 4, "above", "0", "1 3")
        self.check(rows, (4, 4), Share(7, 2), "below", "5/2", "1 5/2")
        self.check(rows, (4, 4), 3, "below", "2", "1 2")
        self.check(rows, (4, 4), 2, "below", "1", "1 1")
        self.check(rows, (4, 4), 1, "below", "1/2", "1/2 1/2")
        self.check(rows, (4, 4), 0, "below", "0", "0 0")

    def test_weights(self):
        rows = [(1, 0, None), (2, 0, None), (3, 0, None)]
        self.check(rows, (100, 100, 100), 60, "above", "10", "10 20 30")
        self.check(rows, (100, 100, 15), 60, "above", "15", "15 30 15")
        self.check(rows, (100, 12, 15), 60, "above", "33", "33 12 15")
        rows = [(1, 10, None), (2, 10, None), (3, 10, None)]
        self.check(rows, (20, 20, 20), 6, "below", "1", "1 2 3")
        self.check(rows, (20, 20, 20), 25, "below", "5", "5 10 10")
        self.check(rows, (20, 20, 20), 7, "below", "7/6", "7/6 7/3 7/2")

    def test_wants_below_the_floor(self):
        rows = [(1, 10, None), (1, 2, None)]
        # The claim of the first is its want.
        self.check(rows, (3, 50), 20, "above", "17", "3 17")
        self.check(rows, (3, 50), 5, "above", "0", "3 2")
        self.check(rows, (3, 50), 4, "below", "2", "2 2")
        self.check(rows, (0, 50), 1, "below", "1", "0 1")

    def test_limits_cut_wants(self):
        rows = [(1, 0, 5), (1, 0, None), (4, 0, 0)]
        self.check(rows, (10 ** 9, 10 ** 9, 10 ** 9), 10 ** 9 + 5, "all", "-", "5 1000000000 0")
        self.check(rows, (10 ** 9, 10 ** 9, 10 ** 9), 10 ** 9, "above", "999999995", "5 999999995 0")
        self.check(rows, (4, 9, 9), 9, "above", "5", "4 5 0")

    def test_floors_of_0(self):
        self.check([(1, 0, None), (3, 0, None)], (5, 5), 0, "above", "0", "0 0")
        self.check([(1, 0, None), (3, 0, None)], (5, 5), 1, "above", "1/4", "1/4 3/4")

    def test_amount_0_with_claims(self):
        self.check([(1, 1, None), (3, 0, None)], (5, 5), 0, "below", "0", "0 0")

    def test_wants_of_0(self):
        self.check([(1, 9, None), (3, 9, None)], (0, 1), Share(1, 3), "below", "1/9", "0 1/3")

    def test_a_level_of_0_below_the_first_bend(self):
        # Each group stays at its claim for a while.
        self.check([(1, 5, None), (1, 7, None)], (9, 9), 12, "above", "0", "5 7")
        self.check([(1, 5, None), (1, 7, None)], (9, 9), Share(25, 2), "above", "11/2", "11/2 7")

    def test_great_amounts(self):
        found = divide([(99, 0, None), (98, 0, None)], (10 ** 9, 10 ** 9), Share(1, 10 ** 29))
        self.assertEqual(found.rows[0][2], Share(1, 197 * 10 ** 29))
        self.assertEqual(found.shares, (Share(99, 197 * 10 ** 29), Share(98, 197 * 10 ** 29)))
        self.assertEqual(divide([(1, 0, None)], (1,), 10 ** 30 - 1).rows, ((-1, "all", None),))


class TreeTest(unittest.TestCase):
    def setUp(self):
        self.wants = Wants(CLUSTER, 0)
        for name, number in (("oil", 9), ("pub", 4), ("ink", 6), ("bio", 30)):
            self.wants[name] = number

    def test_attributes(self):
        # The wants: oil 5, ink 6, art 11, bio 7, lab 18, pub 4.
        found = fair(self.wants, 14)
        self.assertIsInstance(found, Levels)
        self.assertEqual((found.resource, found.wanted), (0, (0, 0, 9, 4, 6, 30)))
        self.assertEqual(found.amount, Share(14))
        # lab gets 10 of weight 2 beside pub with 4; of these art 10/3, not below its claim 4, and bio 6.
        self.assertEqual(texts(found.shares), "10 4 3 4 1 6")
        self.assertEqual([(group, mode, texts([level])) for group, mode, level in found.rows],
                         [(-1, "above", "5"), (0, "above", "3"), (1, "above", "1")])
        for part in (found.wanted, found.shares, found.rows, found.rows[0]):
            self.assertIsInstance(part, tuple)

    def test_all_get_what_they_want(self):
        found = fair(self.wants, 22)
        self.assertEqual(texts(found.shares), "18 11 5 4 6 7")
        self.assertEqual(found.rows, ((-1, "all", None), (0, "all", None), (1, "all", None)))

    def test_a_limit_above_cuts_the_sum(self):
        groups = [("top", "", 1, (0,), (8,)), ("a", "top", 1, (0,), None), ("b", "top", 1, (0,), None), ("c", "", 1, (0,), None)]
        wants = Wants(cluster_of(groups, "a"), 0)
        wants["a"], wants["b"], wants["c"] = 6, 6, 1
        found = fair(wants, 100)
        self.assertEqual(texts(found.shares), "8 4 4 1")
        self.assertEqual(found.rows, ((-1, "all", None), (0, "above", Share(4))))

    def test_a_claim_above_is_cut_by_what_is_wanted_below(self):
        groups = [("top", "", 1, (9,), None), ("a", "top", 1, (0,), (2,)), ("b", "top", 1, (0,), None), ("c", "", 1, (5,), None)]
        wants = Wants(cluster_of(groups, "a"), 0)
        wants["a"], wants["b"], wants["c"] = 50, 1, 50
        # top wants 3 in all, so its claim is 3, not 9.
        self.assertEqual(texts(fair(wants, 8).shares), "3 2 1 5")
        self.assertEqual(fair(wants, 8).rows, ((-1, "above", Share(0)), (0, "all", None)))

    def test_shares_that_are_not_whole_are_divided_on(self):
        found = fair(self.wants, Share(7, 3))
        # The claims are 6 and 2: lab gets 14/9 and pub 7/9; then art and bio claim 4 and 1.
        self.assertEqual(texts(found.shares), "14/9 5/9 5/9 7/9 0 1")
        self.assertEqual([(group, mode, texts([level])) for group, mode, level in found.rows],
                         [(-1, "below", "7/9"), (0, "below", "5/9"), (1, "below", "5/27")])

    def test_the_resource_is_the_one_of_the_table(self):
        wants = Wants(CLUSTER, 1)
        for name, number in self.wants:
            wants[name] = number
        found = fair(wants, 14)
        # No floors and no limits of mem below 50: only weights count.
        self.assertEqual((found.resource, texts(found.shares)), (1, "10 10/3 5/2 4 5/6 20/3"))

    def test_four_deep(self):
        groups = [("a", "", 1, (0,), None), ("b", "a", 1, (0,), None), ("c", "b", 1, (0,), None), ("d", "c", 1, (0,), None)]
        wants = Wants(cluster_of(groups, "d"), 0)
        wants["d"] = 7
        found = fair(wants, 3)
        self.assertEqual(texts(found.shares), "3 3 3 3")
        self.assertEqual(found.rows, tuple((at, "above", Share(3)) for at in (-1, 0, 1, 2)))

    def test_the_share_of_a_group(self):
        found = fair(self.wants, 14)
        self.assertEqual([found[at].text() for at in range(6)], ["10", "4", "3", "4", "1", "6"])
        for at in (-1, 6, -6, 7, 100):
            refuse(self, Unknown, at, lambda: found[at])

    def test_what_is_passed_in_is_unchanged(self):
        before = list(self.wants)
        amount = Share(29, 2)
        found = fair(self.wants, amount)
        self.assertEqual((list(self.wants), amount.text()), (before, "29/2"))
        self.wants["oil"] = 0
        self.assertEqual(found.wanted, (0, 0, 9, 4, 6, 30))

    def test_note(self):
        found = fair(self.wants, 14)
        self.assertTrue(issubclass(Levels, Certificate) and issubclass(Levels, Yes) and not issubclass(Levels, No))
        self.assertIs(found.holds(), True)
        self.assertEqual(found.note(), (
            "levels", 0, (14, 1), (0, 0, 9, 4, 6, 30), ((10, 1), (4, 1), (3, 1), (4, 1), (1, 1), (6, 1)),
            ((-1, "above", (5, 1)), (0, "above", (3, 1)), (1, "above", (1, 1)))))
        self.assertEqual(read_note(write_note(found.note())), found.note())
        self.assertEqual(fair(self.wants, Share(45, 2)).note()[2:3] + fair(self.wants, 22).note()[5:],
                         ((45, 2), ((-1, "all", None), (0, "all", None), (1, "all", None))))

    def test_arguments_are_stored_as_they_are(self):
        parts = (7, Share(1, 2), (1, 2), (Share(3), Share(1, 4)), ((5, "x", None), (-1, "y", Share(2, 3))))
        made = Levels(*parts)
        self.assertEqual((made.resource, made.amount, made.wanted, made.shares, made.rows), parts)
        self.assertIs(made.amount, parts[1])
        self.assertEqual(made.note(), ("levels", 7, (1, 2), (1, 2), ((3, 1), (1, 4)), ((5, "x", None), (-1, "y", (2, 3)))))
        self.assertEqual(made[1], Share(1, 4))
        refuse(self, Unknown, 2, lambda: made[2])


class RandomTest(unittest.TestCase):
    """Each division is held against the words of point 25: sums, and that no lesser level does."""

    def check_division(self, amount, rows, mode, level, shares):
        wants = [want for want, _, _ in rows]
        claims = [claim for _, claim, _ in rows]
        if sum(wants) <= amount:
            self.assertEqual((mode, level, shares), ("all", None, wants))
            return
        self.assertEqual(mode, "above" if sum(claims) <= amount else "below")

        def parts(height):
            if mode == "above":
                return [min(want, max(claim, height * weight)) for want, claim, weight in rows]
            return [min(claim, height * weight) for _, claim, weight in rows]

        self.assertEqual(parts(level), shares)
        self.assertEqual(sum(shares), amount)
        self.assertGreaterEqual(level, 0)
        if level > 0:
            self.assertLess(sum(parts(level - Fraction(1, 10 ** 15))), amount)

    def random_groups(self, dice):
        groups = []
        for at in range(dice.randrange(1, 9)):
            parents = [row for row in groups if row[5] < 3]
            parent = dice.choice(parents) if parents and dice.random() < 0.7 else None
            room = (parent[3] if parent else 9999) - sum(row[3] for row in groups if row[1] == (parent[0] if parent else ""))
            floor = dice.choice([0, dice.randint(0, room), dice.randint(0, min(room, 9)), min(room, 60)])
            limit = dice.choice([None, floor, floor + dice.randrange(12), 9999])
            groups.append((f"g{at}", parent[0] if parent else "", dice.choice([1, 2, 3, 7, 98, 99]), floor, limit,
                           parent[5] + 1 if parent else 0))
        return groups

    def check_tree(self, dice):
        groups = self.random_groups(dice)
        names = [row[0] for row in groups]
        leaves = [name for name in names if name not in [row[1] for row in groups]]
        wants = Wants(cluster_of([(*row[:3], (row[3],), None if row[4] is None else (row[4],)) for row in groups], leaves[0]), 0)
        for name in leaves:
            wants[name] = dice.choice([0, dice.randrange(10), dice.randrange(60), dice.randrange(9999)])
        amount = Fraction(dice.choice([0, dice.randrange(30), dice.randrange(300), dice.randrange(20000)]), dice.choice([1, 1, 2, 7]))
        found = fair(wants, Share(amount.numerator, amount.denominator))
        need = {}
        for row in reversed(groups):
            below = [need[other[0]] for other in groups if other[1] == row[0]]
            whole = wants[row[0]] if row[0] in leaves else sum(below)
            need[row[0]] = whole if row[4] is None else min(whole, row[4])
        inner = [""] + [name for name in names if name not in leaves]
        self.assertEqual([row[0] for row in found.rows], [names.index(name) if name else -1 for name in inner])
        for name, (_, mode, level) in zip(inner, found.rows):
            below = [row for row in groups if row[1] == name]
            self.check_division(
                amount if name == "" else fraction(found[names.index(name)]),
                [(need[row[0]], min(row[3], need[row[0]]), row[2]) for row in below],
                mode, None if level is None else fraction(level),
                [fraction(found[names.index(row[0])]) for row in below])

    def test_random_trees(self):
        dice = random.Random(25)
        for _ in range(300):
            self.check_tree(dice)


if __name__ == "__main__":
    unittest.main()
