"""Point 6: spans of hours."""

import itertools
import unittest

from gangbooks.errors import BadSpan
from gangbooks.spans import Span
from tests.support import refuse

SMALL = [Span(start, end) for start in range(5) for end in range(start, 6)]


def pair(span):
    return span.start, span.end


def hours(span):
    return set(range(span.start, span.end))


class MakingTest(unittest.TestCase):
    def test_start_and_end(self):
        self.assertEqual(pair(Span(2, 5)), (2, 5))
        self.assertEqual(pair(Span(0, 0)), (0, 0))
        self.assertEqual(pair(Span(7, 7)), (7, 7))
        self.assertEqual(pair(Span(0, 100000)), (0, 100000))

    def test_refused(self):
        refuse(self, BadSpan, (3, 2), Span, 3, 2)
        refuse(self, BadSpan, (-1, 2), Span, -1, 2)
        refuse(self, BadSpan, (-1, -1), Span, -1, -1)
        refuse(self, BadSpan, (-3, -5), Span, -3, -5)
        refuse(self, BadSpan, (1, 0), Span, 1, 0)


class HoursTest(unittest.TestCase):
    def test_hours_in_a_span(self):
        for span in SMALL:
            for hour in range(-1, 8):
                self.assertIs(hour in span, hour in hours(span))

    def test_length_and_truth(self):
        for span in SMALL:
            self.assertEqual(len(span), len(hours(span)))
            self.assertIs(bool(span), len(hours(span)) > 0)
        self.assertEqual(len(Span(5, 10005)), 10000)
        self.assertIs(bool(Span(0, 10 ** 30)), True)


class MovedTest(unittest.TestCase):
    def test_later(self):
        self.assertEqual(pair(Span(2, 5) >> 3), (5, 8))
        self.assertEqual(pair(Span(2, 5) >> 0), (2, 5))
        self.assertEqual(pair(Span(2, 2) >> 4), (6, 6))

    def test_earlier(self):
        self.assertEqual(pair(Span(2, 5) << 2), (0, 3))
        self.assertEqual(pair(Span(2, 5) << 0), (2, 5))
        self.assertEqual(pair(Span(4, 4) << 1), (3, 3))

    def test_before_hour_0_is_refused(self):
        refuse(self, BadSpan, (-1, 2), lambda: Span(2, 5) << 3)
        refuse(self, BadSpan, (-98, -95), lambda: Span(2, 5) << 100)
        refuse(self, BadSpan, (-1, -1), lambda: Span(0, 0) << 1)


class TwoSpansTest(unittest.TestCase):
    def test_common_part(self):
        self.assertEqual(pair(Span(2, 6) & Span(4, 9)), (4, 6))
        self.assertEqual(pair(Span(2, 9) & Span(4, 6)), (4, 6))
        self.assertEqual(pair(Span(2, 4) & Span(6, 9)), (6, 6))
        self.assertEqual(pair(Span(6, 9) & Span(2, 4)), (6, 6))
        self.assertEqual(pair(Span(2, 4) & Span(4, 9)), (4, 4))
        self.assertEqual(pair(Span(3, 3) & Span(1, 9)), (3, 3))
        for a, b in itertools.product(SMALL, repeat=2):
            both = a & b
            self.assertEqual(hours(both), hours(a) & hours(b))
            self.assertEqual(both.start, max(a.start, b.start))
            if not both:
                self.assertEqual(both.end, both.start)

    def test_span_over_both(self):
        self.assertEqual(pair(Span(2, 4) | Span(6, 9)), (2, 9))
        self.assertEqual(pair(Span(6, 9) | Span(2, 4)), (2, 9))
        self.assertEqual(pair(Span(2, 9) | Span(3, 4)), (2, 9))
        self.assertEqual(pair(Span(7, 7) | Span(3, 4)), (3, 7))

    def test_common_hour(self):
        for a, b in itertools.product(SMALL, repeat=2):
            self.assertIs(a ^ b, len(hours(a) & hours(b)) > 0)
        self.assertIs(Span(3, 3) ^ Span(0, 9), False)
        self.assertIs(Span(3, 3) ^ Span(3, 3), False)
        self.assertIs(Span(2, 4) ^ Span(4, 6), False)
        self.assertIs(Span(2, 5) ^ Span(4, 6), True)

    def test_equality(self):
        for a, b in itertools.product(SMALL, repeat=2):
            self.assertIs(a == b, pair(a) == pair(b))
            self.assertIs(a != b, pair(a) != pair(b))
        self.assertIs(Span(1, 1) == Span(2, 2), False)
        self.assertIs(Span(1, 2) == (1, 2), False)


class UnchangedTest(unittest.TestCase):
    def test_operators_change_no_span(self):
        a, b = Span(2, 6), Span(4, 9)
        a & b, a | b, a ^ b, a >> 3, a << 2, len(a), bool(a), 3 in a
        a == b
        refuse(self, BadSpan, (-1, 3), lambda: a << 3)
        self.assertEqual((pair(a), pair(b)), ((2, 6), (4, 9)))

    def test_a_moved_span_is_a_new_one(self):
        a = first = Span(2, 6)
        a >>= 1
        self.assertEqual((pair(first), pair(a)), ((2, 6), (3, 7)))


if __name__ == "__main__":
    unittest.main()
