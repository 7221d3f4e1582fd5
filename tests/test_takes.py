"""Point 13: takes and the free amounts."""

import random
import unittest

from gangbooks.amounts import Amounts
from gangbooks.spans import Span
from gangbooks.takes import Takes
from tests.support import cluster

MANY = cluster([(10, 5), (4, 0), (0, 7)], [(((1, (1, 0), 1),), ()), (((1, (1, 0), 1),), ())])
ROWS = [
    (0, 2, 5, (3, 1), 1),
    (1, 0, 9, (1, 0), -1),
    (0, 4, 8, (2, 4), 0),
    (0, 4, 6, (6, 0), -1),
    (0, 8, 9, (0, 1), 1),
]


def free_at(rows, machine, hour):
    """The free amounts of a machine of MANY at an hour, by the words of the point."""
    used = [sum(row[3][k] for row in rows if row[0] == machine and row[1] <= hour < row[2]) for k in range(2)]
    return [MANY.machines[machine].amounts[k] - used[k] for k in range(2)]


def some_rows(source):
    found = []
    for _ in range(source.randint(0, 6)):
        start = source.randint(0, 6)
        found.append((source.randint(0, 2), start, source.randint(start + 1, 8),
                      (source.randint(0, 6), source.randint(0, 6)), source.randint(-1, 1)))
    return found


class FreeTest(unittest.TestCase):
    def check(self, machine, start, end, numbers):
        free = Takes(MANY, ROWS).free(machine, Span(start, end))
        self.assertIsInstance(free, Amounts)
        self.assertEqual(free.numbers, numbers)

    def test_without_takes(self):
        self.assertEqual(Takes(MANY, []).free(0, Span(0, 9)), Amounts(10, 5))
        self.assertEqual(Takes(MANY, []).free(2, Span(3, 4)), Amounts(0, 7))

    def test_single_hours(self):
        self.check(0, 1, 2, (10, 5))
        self.check(0, 2, 3, (7, 4))
        self.check(0, 3, 4, (7, 4))
        self.check(0, 4, 5, (-1, 0))
        self.check(0, 5, 6, (2, 1))
        self.check(0, 6, 7, (8, 1))
        self.check(0, 8, 9, (10, 4))
        self.check(0, 9, 10, (10, 5))

    def test_least_of_each_resource(self):
        self.check(0, 0, 4, (7, 4))
        self.check(0, 5, 9, (2, 1))
        self.check(0, 6, 10, (8, 1))
        self.check(0, 0, 20, (-1, 0))
        self.check(0, 2, 4, (7, 4))

    def test_other_machines(self):
        self.check(1, 0, 9, (3, 0))
        self.check(1, 9, 12, (4, 0))
        self.check(2, 0, 9, (0, 7))

    def test_empty_spans(self):
        for hour in (0, 4, 5, 100):
            self.check(0, hour, hour, (10, 5))

    def test_negative_amounts(self):
        over = Takes(MANY, [(0, 0, 1, (10 ** 6, 10 ** 6), 0), (0, 0, 1, (10 ** 6, 0), 1)])
        self.assertEqual(over.free(0, Span(0, 3)), Amounts(10 - 2 * 10 ** 6, 5 - 10 ** 6))

    def test_against_a_count_of_hours(self):
        source = random.Random(5)
        for _ in range(300):
            found = some_rows(source)
            takes = Takes(MANY, found)
            start = source.randint(0, 7)
            end = source.randint(start + 1, 10)
            for machine in range(3):
                hours = [free_at(found, machine, hour) for hour in range(start, end)]
                self.assertEqual(list(takes.free(machine, Span(start, end))),
                                 [min(free[k] for free in hours) for k in range(2)])


class UsersTest(unittest.TestCase):
    def check(self, machine, start, end, users):
        found = Takes(MANY, ROWS).users(machine, Span(start, end))
        self.assertIsInstance(found, tuple)
        self.assertEqual(found, users)

    def test_users(self):
        self.check(0, 0, 2, ())
        self.check(0, 1, 3, (1,))
        self.check(0, 5, 8, (0,))
        self.check(0, 4, 5, (0, 1))
        self.check(0, 0, 20, (0, 1))
        self.check(0, 8, 9, (1,))
        self.check(0, 9, 12, ())

    def test_takes_of_no_job_do_not_count(self):
        self.check(1, 0, 9, ())
        only = Takes(MANY, [(0, 0, 9, (0, 0), -1), (0, 0, 9, (0, 0), 0)])
        self.assertEqual(only.users(0, Span(0, 9)), (0,))

    def test_other_machines_do_not_count(self):
        self.check(2, 0, 20, ())
        self.check(1, 0, 20, ())

    def test_empty_spans(self):
        for hour in (0, 2, 3, 4, 5, 8):
            self.check(0, hour, hour, ())

    def test_ascending_without_duplicates(self):
        twice = Takes(MANY, [(0, 0, 3, (0, 0), 1), (0, 1, 2, (0, 0), 0), (0, 0, 9, (0, 0), 1)])
        self.assertEqual(twice.users(0, Span(0, 9)), (0, 1))


class EndsTest(unittest.TestCase):
    def test_ends(self):
        self.assertEqual(Takes(MANY, ROWS).ends(), [5, 6, 8, 9])
        self.assertEqual(Takes(MANY, []).ends(), [])
        self.assertEqual(Takes(MANY, [(0, 5, 100, (0, 0), 0), (1, 0, 20, (0, 0), 0)]).ends(), [20, 100])
        self.assertIsInstance(Takes(MANY, ROWS).ends(), list)


class OverfullTest(unittest.TestCase):
    def test_nowhere(self):
        self.assertIsNone(Takes(MANY, []).overfull())
        self.assertIsNone(Takes(MANY, [(0, 0, 4, (5, 5), 0), (0, 2, 4, (5, 0), 0)]).overfull())
        self.assertIsNone(Takes(MANY, [(0, 0, 4, (10, 5), 0), (0, 4, 8, (10, 5), 0)]).overfull())

    def test_least_hour(self):
        self.assertEqual(Takes(MANY, ROWS).overfull(), (4, 0, 0))
        self.assertEqual(Takes(MANY, [(0, 3, 4, (11, 0), 0), (2, 2, 9, (1, 0), 0)]).overfull(), (2, 2, 0))
        self.assertEqual(Takes(MANY, [(0, 0, 9, (6, 0), 0), (0, 7, 8, (6, 0), 0)]).overfull(), (7, 0, 0))

    def test_then_the_least_machine_and_resource(self):
        self.assertEqual(Takes(MANY, [(2, 3, 4, (1, 0), 0), (1, 3, 9, (0, 1), 0)]).overfull(), (3, 1, 1))
        self.assertEqual(Takes(MANY, [(1, 3, 4, (5, 1), 0)]).overfull(), (3, 1, 0))
        self.assertEqual(Takes(MANY, [(0, 3, 4, (10, 6), 0)]).overfull(), (3, 0, 1))

    def test_against_a_count_of_hours(self):
        source = random.Random(6)
        for _ in range(300):
            found = some_rows(source)
            over = [(hour, machine, k) for hour in range(12) for machine in range(3) for k in range(2)
                    if free_at(found, machine, hour)[k] < 0]
            self.assertEqual(Takes(MANY, found).overfull(), min(over, default=None))


class RowsTest(unittest.TestCase):
    def test_rows_in_order(self):
        takes = Takes(MANY, ROWS)
        self.assertEqual(list(takes), ROWS)
        self.assertEqual([row for row in takes], ROWS)
        self.assertIs(takes.cluster, MANY)

    def test_more_rows_at_the_end(self):
        more = [(2, 0, 1, (0, 1), 0), (0, 0, 1, (1, 1), 1)]
        for other in (more, Takes(MANY, more)):
            both = Takes(MANY, ROWS) + other
            self.assertIsInstance(both, Takes)
            self.assertEqual(list(both), ROWS + more)
            self.assertIs(both.cluster, MANY)
            self.assertEqual(both.free(2, Span(0, 1)), Amounts(0, 6))
        self.assertEqual(list(Takes(MANY, []) + []), [])
        self.assertEqual(list(Takes(MANY, more) + more), more + more)

    def test_what_is_passed_in_is_copied(self):
        given = list(ROWS)
        takes = Takes(MANY, given)
        given.clear()
        self.assertEqual(list(takes), ROWS)

    def test_adding_changes_neither(self):
        first, more = Takes(MANY, ROWS[:2]), ROWS[2:]
        other = Takes(MANY, more)
        first + more, first + other
        self.assertEqual((list(first), more, list(other)), (ROWS[:2], ROWS[2:], ROWS[2:]))
        grown = first
        grown += more
        self.assertEqual((list(first), list(grown)), (ROWS[:2], ROWS))

    def test_what_is_returned_is_new(self):
        takes = Takes(MANY, ROWS)
        takes.ends().clear()
        self.assertEqual(takes.ends(), [5, 6, 8, 9])


if __name__ == "__main__":
    unittest.main()
