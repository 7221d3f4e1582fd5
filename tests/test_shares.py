"""Point 4: exact fractions."""

import fractions
import itertools
import unittest

from gangbooks.errors import BadShare
from gangbooks.shares import Share
from tests.support import refuse

TOPS = range(-4, 5)
SMALL = [Share(top, bottom) for top in TOPS for bottom in (1, 2, 3, 6)]


def pair(share):
    return share.top, share.bottom


def exact(worth):
    return fractions.Fraction(worth.top, worth.bottom) if isinstance(worth, Share) else fractions.Fraction(worth)


class MakingTest(unittest.TestCase):
    def test_lowest_terms(self):
        self.assertEqual(pair(Share(6, 4)), (3, 2))
        self.assertEqual(pair(Share(-6, 4)), (-3, 2))
        self.assertEqual(pair(Share(6, -4)), (-3, 2))
        self.assertEqual(pair(Share(-6, -4)), (3, 2))
        self.assertEqual(pair(Share(8, 4)), (2, 1))
        self.assertEqual(pair(Share(3, 7)), (3, 7))

    def test_zero_and_integers(self):
        for bottom in (-9, -1, 1, 9):
            self.assertEqual(pair(Share(0, bottom)), (0, 1))
        self.assertEqual(pair(Share(5)), (5, 1))
        self.assertEqual(pair(Share(-5)), (-5, 1))
        self.assertEqual(pair(Share(0)), (0, 1))
        self.assertEqual(pair(Share(top=4, bottom=6)), (2, 3))

    def test_bottom_0_is_refused(self):
        refuse(self, BadShare, (3, 0), Share, 3, 0)
        refuse(self, BadShare, (0, 0), Share, 0, 0)
        refuse(self, BadShare, (-3, 0), Share, -3, 0)

    def test_great_numbers(self):
        great = 10 ** 30 - 1
        self.assertEqual(pair(Share(great * 7, great * 9)), (7, 9))
        self.assertEqual(pair(Share(1, great) + Share(1, great)), (2, great))


class ArithmeticTest(unittest.TestCase):
    def check(self, made, wanted):
        self.assertIs(type(made), Share)
        self.assertEqual(pair(made), (wanted.numerator, wanted.denominator))

    def test_two_shares(self):
        for a, b in itertools.product(SMALL, repeat=2):
            x, y = exact(a), exact(b)
            self.check(a + b, x + y)
            self.check(a - b, x - y)
            self.check(a * b, x * y)

    def test_an_integer_on_either_side(self):
        for a, n in itertools.product(SMALL, TOPS):
            x = exact(a)
            self.check(a + n, x + n)
            self.check(n + a, n + x)
            self.check(a - n, x - n)
            self.check(n - a, n - x)
            self.check(a * n, x * n)
            self.check(n * a, n * x)

    def test_quotients(self):
        for a, b in itertools.product(SMALL, [*SMALL, *TOPS]):
            x, y = exact(a), exact(b)
            if y == 0:
                continue
            self.assertIs(type(a // b), int)
            self.assertEqual(a // b, x // y)
            self.check(a % b, x - (x // y) * y)
            self.check(a.over(b), x / y)

    def test_quotients_below_nought(self):
        self.assertEqual(Share(-7, 2) // Share(2), -2)
        self.assertEqual(Share(7, 2) // Share(-2), -2)
        self.assertEqual(Share(-7, 2) // Share(-2), 1)
        self.assertEqual(pair(Share(-7, 2) % 2), (1, 2))
        self.assertEqual(pair(Share(7, 2) % -2), (-1, 2))
        self.assertEqual(pair(Share(7, 2).over(-2)), (-7, 4))

    def test_divisor_0_is_refused_with_the_share_itself(self):
        for a in (Share(7, 2), Share(0), Share(-1)):
            for b in (0, Share(0), Share(0, 5)):
                for call in (lambda: a // b, lambda: a % b, lambda: a.over(b)):
                    with self.assertRaises(BadShare) as caught:
                        call()
                    self.assertIs(type(caught.exception), BadShare)
                    self.assertIs(caught.exception.subject, a)
                self.assertIsInstance(b, (int, Share))

    def test_powers(self):
        for a in SMALL:
            for n in range(5):
                self.check(a ** n, exact(a) ** n)
        self.check(Share(-2, 3) ** 64, fractions.Fraction(-2, 3) ** 64)
        self.check(Share(-2, 3) ** 63, fractions.Fraction(-2, 3) ** 63)
        self.check(Share(0) ** 0, fractions.Fraction(1))
        self.check(Share(10 ** 30 - 1) ** 64, fractions.Fraction(10 ** 30 - 1) ** 64)

    def test_signs(self):
        for a in SMALL:
            self.check(-a, -exact(a))
            self.check(abs(a), abs(exact(a)))
            self.assertEqual(a.sign, (exact(a) > 0) - (exact(a) < 0))
            self.assertIs(bool(a), exact(a) != 0)
        self.assertEqual([Share(-1, 9).sign, Share(0, 9).sign, Share(1, 9).sign], [-1, 0, 1])

    def test_document_example(self):
        self.assertEqual([(1 - Share(1, 3)).text(), Share(7, 2) // Share(2, 3), (Share(7, 2) % Share(2, 3)).text()],
                         ["2/3", 5, "1/6"])


class EqualityTest(unittest.TestCase):
    def test_two_shares(self):
        for a, b in itertools.product(SMALL, repeat=2):
            self.assertIs(a == b, exact(a) == exact(b))
            self.assertIs(a != b, exact(a) != exact(b))
        self.assertIs(Share(2, 4) == Share(-1, -2), True)
        self.assertIs(Share(1, 2) == Share(1, 3), False)
        self.assertIs(Share(1, 3) == Share(2, 3), False)

    def test_other_values(self):
        self.assertIs(Share(1) == 1, False)
        self.assertIs(1 == Share(1), False)
        self.assertIs(Share(0) == 0, False)
        self.assertIs(Share(1, 2) == "1/2", False)
        self.assertIs(Share(1, 2) == None, False)  # noqa: E711
        self.assertIs(Share(1, 2) == (1, 2), False)


class TextTest(unittest.TestCase):
    def test_texts(self):
        for share, text in ((Share(-3, 4), "-3/4"), (Share(5), "5"), (Share(0), "0"), (Share(-5), "-5"),
                            (Share(6, 4), "3/2"), (Share(1, 10), "1/10"), (Share(100, 7), "100/7")):
            self.assertEqual(share.text(), text)
            self.assertEqual(pair(Share.read(text)), pair(share))

    def test_every_text_is_read_again(self):
        for share in SMALL:
            read = Share.read(share.text())
            self.assertIs(type(read), Share)
            self.assertEqual(pair(read), pair(share))
        great = 10 ** 30 - 1
        self.assertEqual(pair(Share.read(f"-{great}/{great - 1}")), (-great, great - 1))

    def test_texts_of_no_share(self):
        for text in ("2/4", "3/1", "+1", "-0", "01", "", "-", "/", "1/", "/2", "-/2", "1/0", "0/1", "0/5", "-0/5", "1/-2",
                     "1/+2", "--1", "1/2/3", "1 /2", " 1", "1 ", "1/ 2", "1/02", "01/2", "-01", "1.5", "a", "1/a", "0/0",
                     "1_0", "1\n", "1//2", "00", "1/1", "-3/3", "4/2", "- 1", "1/1_0", "-1/-2", "1/2\n"):
            refuse(self, BadShare, text, Share.read, text)


class UnchangedTest(unittest.TestCase):
    def test_no_operation_changes_a_share(self):
        a, b = Share(7, 2), Share(-2, 3)
        a + b, a - b, a * b, a // b, a % b, a ** 3, -a, abs(a), a.over(b), a.sign, bool(a), a.text()
        1 + a, 1 - a, 2 * a
        a == b
        refuse(self, BadShare, a, lambda: a // 0)
        refuse(self, BadShare, a, lambda: a % 0)
        refuse(self, BadShare, a, a.over, 0)
        self.assertEqual((pair(a), pair(b)), ((7, 2), (-2, 3)))

    def test_in_place_signs_give_new_shares(self):
        a = first = Share(7, 2)
        a += 1
        self.assertEqual((pair(first), pair(a)), ((7, 2), (9, 2)))
        a *= 2
        self.assertEqual((pair(first), pair(a)), ((7, 2), (9, 1)))


if __name__ == "__main__":
    unittest.main()
