"""Point 5: rows of amounts."""

import itertools
import random
import unittest

from gangbooks.amounts import Amounts
from gangbooks.errors import BadAmounts, Unknown
from tests.support import refuse

OPERATORS = {
    "+": lambda a, b: a + b,
    "-": lambda a, b: a - b,
    "&": lambda a, b: a & b,
    "|": lambda a, b: a | b,
    "//": lambda a, b: a // b,
    "%": lambda a, b: a % b,
    "in": lambda a, b: b in a,
}


class MakingTest(unittest.TestCase):
    def test_one_to_three_numbers(self):
        self.assertEqual(Amounts(5).numbers, (5,))
        self.assertEqual(Amounts(5, -6).numbers, (5, -6))
        self.assertEqual(Amounts(5, 0, 7).numbers, (5, 0, 7))
        self.assertIs(type(Amounts(1, 2).numbers), tuple)

    def test_another_count_is_refused_with_the_tuple(self):
        refuse(self, BadAmounts, (), Amounts)
        refuse(self, BadAmounts, (1, 2, 3, 4), Amounts, 1, 2, 3, 4)
        refuse(self, BadAmounts, (0,) * 9, Amounts, *[0] * 9)

    def test_great_numbers(self):
        great = 10 ** 30 - 1
        self.assertEqual((Amounts(great) + Amounts(great)).numbers, (2 * great,))
        self.assertEqual((Amounts(great) - Amounts(great - 1)).numbers, (1,))
        self.assertEqual(Amounts(great, great) // Amounts(7, 0), great // 7)
        self.assertEqual((great * Amounts(great)).numbers, (great * great,))


class NumberByNumberTest(unittest.TestCase):
    def test_sum_and_difference(self):
        self.assertEqual((Amounts(1, 2, 3) + Amounts(10, -20, 30)).numbers, (11, -18, 33))
        self.assertEqual((Amounts(1, 2, 3) - Amounts(10, -20, 30)).numbers, (-9, 22, -27))
        self.assertEqual((Amounts(1) + Amounts(4)).numbers, (5,))

    def test_lesser_and_greater(self):
        self.assertEqual((Amounts(1, 5, -3) & Amounts(2, 4, -3)).numbers, (1, 4, -3))
        self.assertEqual((Amounts(1, 5, -3) | Amounts(2, 4, -3)).numbers, (2, 5, -3))
        self.assertEqual((Amounts(-1, 5) & Amounts(0, 9)).numbers, (-1, 5))
        self.assertEqual((Amounts(-1, 5) | Amounts(0, 9)).numbers, (0, 9))

    def test_times_an_integer_on_either_side(self):
        for n in (-2, 0, 1, 3):
            self.assertEqual((n * Amounts(1, -2, 3)).numbers, (n, -2 * n, 3 * n))
            self.assertEqual((Amounts(1, -2, 3) * n).numbers, (n, -2 * n, 3 * n))

    def test_negative_and_sum_of_absolute_values(self):
        self.assertEqual((-Amounts(1, -2, 0)).numbers, (-1, 2, 0))
        self.assertEqual(abs(Amounts(1, -2, 4)), 7)
        self.assertEqual(abs(Amounts(0)), 0)
        self.assertIs(type(abs(Amounts(-3))), int)

    def test_results_are_rows(self):
        a, b = Amounts(4, 6), Amounts(1, 2)
        for made in (a + b, a - b, a & b, a | b, a % b, 2 * a, a * 2, -a):
            self.assertIsInstance(made, Amounts)


class WithinTest(unittest.TestCase):
    def test_each_number_counts(self):
        self.assertIs(Amounts(1, 2) in Amounts(1, 2), True)
        self.assertIs(Amounts(0, 2) in Amounts(1, 2), True)
        self.assertIs(Amounts(2, 0) in Amounts(1, 2), False)
        self.assertIs(Amounts(0, 3) in Amounts(1, 2), False)
        self.assertIs(Amounts(0, 0, 1) in Amounts(9, 9, 0), False)
        self.assertIs(Amounts(-5) in Amounts(-5), True)
        self.assertIs(Amounts(-4) in Amounts(-5), False)


class QuotientTest(unittest.TestCase):
    def test_greatest_multiple_within(self):
        self.assertEqual(Amounts(7, 9) // Amounts(2, 4), 2)
        self.assertEqual(Amounts(7, 9) // Amounts(3, 1), 2)
        self.assertEqual(Amounts(7, 9) // Amounts(8, 1), 0)
        self.assertEqual(Amounts(6, 9, 1) // Amounts(2, 3, 0), 3)
        self.assertEqual(Amounts(0, 9) // Amounts(0, 2), 4)
        self.assertEqual(Amounts(0, 0) // Amounts(1, 0), 0)
        self.assertIs(type(Amounts(7) // Amounts(2)), int)

    def test_rest(self):
        self.assertEqual((Amounts(7, 9) % Amounts(2, 4)).numbers, (3, 1))
        self.assertEqual((Amounts(7, 9) % Amounts(0, 4)).numbers, (7, 1))
        self.assertEqual((Amounts(7, 9) % Amounts(8, 4)).numbers, (7, 9))

    def test_against_a_search(self):
        source = random.Random(1)
        for _ in range(300):
            many = source.randint(1, 3)
            a = Amounts(*[source.randint(0, 20) for _ in range(many)])
            b = Amounts(*[source.randint(0, 4) for _ in range(many)])
            if not any(b.numbers):
                continue
            most = max(n for n in range(25) if n * b in a)
            self.assertEqual(a // b, most)
            self.assertEqual((a % b).numbers, (a - most * b).numbers)

    def test_noughts_are_refused(self):
        for zero in (Amounts(0), Amounts(0, 0), Amounts(0, 0, 0)):
            whole = Amounts(*[5] * len(zero))
            refuse(self, BadAmounts, zero.numbers, OPERATORS["//"], whole, zero)
            refuse(self, BadAmounts, zero.numbers, OPERATORS["%"], whole, zero)


class LengthsTest(unittest.TestCase):
    def test_operators_refuse_the_row_on_the_right(self):
        samples = (Amounts(1), Amounts(2, 3), Amounts(4, 5, 6))
        for a, b in itertools.permutations(samples, 2):
            for sign, operator in OPERATORS.items():
                refuse(self, BadAmounts, b.numbers, operator, a, b)

    def test_the_length_is_refused_also_where_one_row_begins_like_the_other(self):
        refuse(self, BadAmounts, (1,), OPERATORS["+"], Amounts(1, 2), Amounts(1))
        refuse(self, BadAmounts, (0, 0), OPERATORS["//"], Amounts(1), Amounts(0, 0))

    def test_equality_is_false(self):
        self.assertIs(Amounts(1) == Amounts(1, 0), False)
        self.assertIs(Amounts(1, 0) == Amounts(1), False)


class AsRowTest(unittest.TestCase):
    def test_items_length_iteration(self):
        a = Amounts(7, -8, 9)
        self.assertEqual([a[0], a[1], a[2]], [7, -8, 9])
        self.assertEqual(len(a), 3)
        self.assertEqual(len(Amounts(1)), 1)
        self.assertEqual(list(a), [7, -8, 9])
        self.assertEqual([n for n in a], [7, -8, 9])
        self.assertEqual(list(a), [7, -8, 9])

    def test_truth(self):
        self.assertIs(bool(Amounts(0, 0, 0)), False)
        self.assertIs(bool(Amounts(0)), False)
        self.assertIs(bool(Amounts(0, 0, 1)), True)
        self.assertIs(bool(Amounts(-1, 0)), True)
        self.assertIs(bool(Amounts(1, -1)), True)

    def test_equality(self):
        self.assertIs(Amounts(1, 2) == Amounts(1, 2), True)
        self.assertIs(Amounts(1, 2) == Amounts(2, 1), False)
        self.assertIs(Amounts(1, 2) != Amounts(1, 2), False)
        self.assertIs(Amounts(1, 2) == (1, 2), False)


class NamedTest(unittest.TestCase):
    def test_keywords_give_numbers(self):
        self.assertEqual(Amounts.of(("core", "mem"), mem=4, core=1).numbers, (1, 4))
        self.assertEqual(Amounts.of(("core", "mem", "gpu"), mem=-4).numbers, (0, -4, 0))
        self.assertEqual(Amounts.of(("core",)).numbers, (0,))
        self.assertEqual(Amounts.of(("self", "named"), self=3, named=4).numbers, (3, 4))
        self.assertIsInstance(Amounts.of(("core",)), Amounts)

    def test_the_first_unknown_keyword_is_refused(self):
        refuse(self, Unknown, "x", Amounts.of, ("core", "mem"), core=1, x=2, a=3)
        refuse(self, Unknown, "a", Amounts.of, ("core", "mem"), a=3, core=1, x=2)
        refuse(self, Unknown, "core", Amounts.of, ("mem",), core=0)

    def test_it_is_called_off_the_class_and_off_a_row(self):
        self.assertEqual(Amounts(1).of(("a", "b"), b=2).numbers, (0, 2))


class UnchangedTest(unittest.TestCase):
    def test_operators_change_no_row(self):
        a, b = Amounts(7, 9), Amounts(2, 4)
        for operator in OPERATORS.values():
            operator(a, b)
        3 * a, a * 3, -a, abs(a), bool(a), list(a)
        a == b
        self.assertEqual((a.numbers, b.numbers), ((7, 9), (2, 4)))

    def test_in_place_signs_give_new_rows(self):
        a = first = Amounts(7, 9)
        a += Amounts(1, 1)
        self.assertEqual((first.numbers, a.numbers), ((7, 9), (8, 10)))

    def test_refused_operators_change_no_row(self):
        a, b = Amounts(7, 9), Amounts(2)
        for operator in OPERATORS.values():
            refuse(self, BadAmounts, (2,), operator, a, b)
        self.assertEqual((a.numbers, b.numbers), ((7, 9), (2,)))

    def test_arguments_are_kept(self):
        numbers = [1, 2]
        a = Amounts(*numbers)
        numbers[0] = 9
        self.assertEqual(a.numbers, (1, 2))
        names = ("core", "mem")
        given = {"mem": 3}
        Amounts.of(names, **given)
        self.assertEqual((names, given), (("core", "mem"), {"mem": 3}))


if __name__ == "__main__":
    unittest.main()
