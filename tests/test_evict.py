"""Point 37: the least evictions that make room for a gang."""

import itertools
import random
import unittest

from gangbooks.evict import spare
from gangbooks.fitting import Shortage, fit, placings
from gangbooks.spans import Span
from gangbooks.takes import Takes
from tests.support import cluster

TWO = cluster([(4,), (4,)], [(((1, (3,), 2),), ()), (((2, (3,), 2),), ()), (((1, (1,), 2),), ("never:a",)), (((1, (3,), 2),), ("near",))],
              zones=["y", "z"])
SPAN = Span(0, 2)


def take(machine, number, start=0, end=2, template=3):
    return (machine, start, end, (number,), template)


def noted(found):
    if isinstance(found, Shortage):
        return found.note()
    return [(at, shortage.note()) for at, shortage in found]


class SpareTest(unittest.TestCase):
    def setUp(self):
        self.takes = Takes(TWO, [])

    def check(self, found, indexes):
        self.assertIsInstance(found, list)
        self.assertEqual([at for at, _ in found], indexes)
        for pair in found:
            self.assertIsInstance(pair, tuple)
            self.assertIsInstance(pair[1], Shortage)

    def test_no_running_lists(self):
        self.assertEqual(spare(self.takes, (0, 0), SPAN, []), [])

    def test_no_room_even_without_all_lists(self):
        takes = Takes(TWO, [take(0, 2), take(1, 2)])
        found = spare(takes, (0, 0), SPAN, [[take(0, 1)]])
        self.assertIsInstance(found, Shortage)
        self.assertEqual(found.note(), ("shortage", (0, 0), 0, 2, ((0, 0), (0, 0))))
        self.assertEqual(found.note(), fit(takes, (0, 0), SPAN, "first").note())

    def test_kept_and_not_kept(self):
        # Beside one list there is room on the other machine.
        self.check(spare(self.takes, (0, 0), SPAN, [[take(0, 2)]]), [])
        self.check(spare(self.takes, (0, 0), SPAN, [[take(0, 2)], [take(1, 2)]]), [1])
        self.check(spare(self.takes, (0, 0), SPAN, [[take(1, 2)], [take(0, 2)]]), [1])
        self.check(spare(self.takes, (1, 0), SPAN, [[take(0, 2)], [take(1, 2)]]), [0, 1])

    def test_a_list_that_would_be_kept_without_an_earlier_one(self):
        lists = [[take(0, 2)], [take(1, 2)], [take(0, 1), take(1, 1)]]
        self.check(spare(self.takes, (0, 0), SPAN, lists), [1])
        self.check(spare(self.takes, (0, 0), SPAN, lists[1:]), [])
        # Behind one that is not kept there may be one that is.
        self.check(spare(self.takes, (0, 0), SPAN, [[take(0, 2)], [take(1, 2)], [take(1, 1)], [take(1, 1)]]), [1, 3])

    def test_the_shortage_is_that_of_the_test(self):
        found = spare(Takes(TWO, [take(1, 1)]), (0, 0), SPAN, [[take(0, 3)], [take(1, 1)], [take(0, 9)], [take(1, 2)]])
        self.assertEqual(noted(found), [(1, ("shortage", (0, 0), 0, 2, ((0, 0), (0, 0)))),
                                        (3, ("shortage", (0, 0), 0, 2, ((0, 0), (0, 0))))])
        # The kept lists count in it, those that are not kept do not.
        found = spare(self.takes, (1, 0), SPAN, [[take(0, 1)], [take(0, 1)], [take(1, 1)], [take(1, 4)]])
        self.assertEqual(noted(found), [(1, ("shortage", (1, 0), 0, 2, ((0, 0), (1, 0)))),
                                        (3, ("shortage", (1, 0), 0, 2, ((1, 0), (0, 0))))])

    def test_only_hours_of_the_span_matter(self):
        lists = [[take(0, 4, 2, 3)], [take(1, 4, 2, 9)]]
        self.check(spare(self.takes, (1, 0), SPAN, lists), [])
        self.check(spare(self.takes, (1, 0), Span(1, 3), lists), [0, 1])

    def test_barred_machines(self):
        self.assertEqual(spare(self.takes, (0, 0), SPAN, [[take(0, 2)], [take(1, 2)]], (0,))[0][0], 1)
        found = spare(self.takes, (0, 0), SPAN, [[take(0, 2)], [take(1, 2)]], (1,))
        self.assertEqual(noted(found), [(0, ("shortage", (0, 0), 0, 2, ((0, 0), (0, "barred"))))])
        self.assertIsInstance(spare(self.takes, (0, 0), SPAN, [[take(0, 2)]], (0, 1)), Shortage)
        self.check(spare(self.takes, (0, 0), SPAN, [[take(0, 2)], [take(1, 2)]], barred=(1,)), [0])

    def test_foes_and_zones(self):
        # Jobs of a and c share no machine.
        self.assertEqual(noted(spare(self.takes, (2, 0), SPAN, [[take(0, 1, template=0)], [take(1, 1, template=0)]])),
                         [(1, ("shortage", (2, 0), 0, 2, ((0, "never"), (0, "never"))))])
        self.check(spare(self.takes, (2, 0), SPAN, [[take(0, 1, template=-1)], [take(1, 1, template=1)]]), [])

    def test_lists_of_several_takes_and_empty_lists(self):
        self.check(spare(self.takes, (0, 0), SPAN, [[take(0, 2), take(1, 2)], [], [take(0, 1)]]), [0])

    def test_what_is_passed_in_is_unchanged(self):
        rows = [take(1, 1)]
        lists = [[take(0, 2)], [take(1, 2)]]
        takes = Takes(TWO, rows)
        found = spare(takes, (0, 0), SPAN, lists, (0,))
        found.clear()
        self.assertEqual((list(takes), lists), ([take(1, 1)], [[take(0, 2)], [take(1, 2)]]))
        self.assertEqual(len(spare(takes, (0, 0), SPAN, lists, (0,))), 1)


class RandomTest(unittest.TestCase):
    """All sets of lists are tried: the result keeps the first set of those that leave room, by the order of point 37."""

    def test_random_lists(self):
        dice = random.Random(37)
        for _ in range(200):
            many = dice.randrange(1, 4)
            wishes = [(), ("near",), ("apart",), ("never:b",), ("likes:x",)]
            made = cluster([(dice.randrange(1, 6), dice.randrange(1, 6)) for _ in range(many)],
                           [(((dice.randrange(1, 4), dice.choice([(1, 0), (1, 1), (0, 2)]), 3),), dice.choice(wishes)) for _ in range(2)],
                           zones=[dice.choice("yz") for _ in range(many)])

            def rows(most):
                return [(dice.randrange(many), start, start + dice.randrange(1, 4), (dice.randrange(3), dice.randrange(3)), dice.randrange(-1, 2))
                        for start in [dice.randrange(3) for _ in range(dice.randrange(most))]]

            takes, lists = Takes(made, rows(3)), [rows(4) for _ in range(dice.randrange(5))]
            barred = tuple(at for at in range(many) if dice.random() < 0.2)
            span, gang = Span(1, 4), (0, 0)
            found = spare(takes, gang, span, lists, barred)

            def room(kept):
                return bool(list(placings(takes + [row for at in kept for row in lists[at]], gang, span, barred)))

            if not room(()):
                self.assertEqual(noted(found), fit(takes, gang, span, "loose", barred).note())
                continue
            sets = [kept for size in range(len(lists) + 1) for kept in itertools.combinations(range(len(lists)), size) if room(kept)]
            best = max(sets, key=lambda kept: [at in kept for at in range(len(lists))])
            self.assertEqual([at for at, _ in found], [at for at in range(len(lists)) if at not in best])
            for at, shortage in found:
                tested = takes + [row for k in (*[k for k in best if k < at], at) for row in lists[k]]
                self.assertEqual(shortage.note(), fit(tested, gang, span, "first", barred).note())


if __name__ == "__main__":
    unittest.main()
