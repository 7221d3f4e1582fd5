"""Points 14 to 18, and the takes of point 20: places of one gang."""

import itertools
import random
import unittest

from gangbooks.fitting import Shortage, bounds, fit, placings, stands, takes_of, worth
from gangbooks.notes import Certificate, No, read_note, write_note
from gangbooks.spans import Span
from gangbooks.takes import Takes
from tests.support import cluster

HOUR = Span(0, 1)
GANG = (0, 0)


def stages(tasks, *amounts):
    return ((tasks, amounts, 1),)


class BoundsTest(unittest.TestCase):
    def check(self, made, rows, pairs, barred=(), gang=GANG, span=HOUR):
        found = bounds(Takes(made, rows), gang, span, barred)
        self.assertIsInstance(found, list)
        self.assertEqual(found, pairs)

    def test_count_and_first_least_resource(self):
        made = cluster([(10, 10), (10, 4), (3, 10), (1, 10), (10, 0)], [(stages(6, 2, 2), ())])
        self.check(made, [], [(5, 0), (2, 1), (1, 0), (0, 0), (0, 1)])

    def test_resources_of_which_a_task_needs_nothing(self):
        made = cluster([(10, 0, 6), (0, 9, 7)], [(stages(6, 0, 0, 2), ()), (stages(1, 5, 0, 2), ())])
        self.check(made, [], [(3, 2), (3, 2)])
        self.check(made, [], [(2, 0), (0, 0)], gang=(1, 0))

    def test_negative_free_amounts_count_as_0(self):
        made = cluster([(4, 4)], [(stages(1, 1, 1), ())])
        self.check(made, [(0, 0, 1, (0, 9), 0)], [(0, 1)])
        self.check(made, [(0, 0, 1, (9, 9), 0)], [(0, 0)])
        self.check(made, [(0, 0, 1, (4, 9), 0)], [(0, 0)])

    def test_all_hours_of_the_span_count(self):
        made = cluster([(4, 9), (4, 4)], [(((2, (1, 1), 1), (2, (2, 1), 5)), ())])
        rows = [(0, 1, 2, (1, 0), -1), (0, 3, 9, (0, 9), -1), (1, 6, 9, (3, 3), -1)]
        self.check(made, rows, [(0, 1), (2, 0)], gang=(0, 1), span=Span(0, 5))
        self.check(made, rows, [(1, 0), (2, 0)], gang=(0, 1), span=Span(0, 3))
        self.check(made, rows, [(2, 0), (2, 0)], gang=(0, 1), span=Span(0, 1))
        self.check(made, rows, [(0, 1), (1, 0)], gang=GANG, span=Span(0, 7))

    def test_the_stage_of_the_gang_counts(self):
        made = cluster([(9,)], [(((1, (2,), 1), (1, (3,), 1)), ()), (stages(1, 9), ())])
        self.check(made, [], [(4, 0)], gang=(0, 0))
        self.check(made, [], [(3, 0)], gang=(0, 1))
        self.check(made, [], [(1, 0)], gang=(1, 0))

    def test_barred(self):
        made = cluster([(4,), (4,), (4,)], [(stages(1, 1), ())])
        self.check(made, [], [(4, 0), (0, "barred"), (4, 0)], barred=(1,))
        self.check(made, [], [(0, "barred"), (4, 0), (0, "barred")], barred=(2, 0))
        self.assertEqual(bounds(Takes(made, []), GANG, HOUR), [(4, 0)] * 3)

    def test_needs(self):
        made = cluster([(4,)] * 4, [(stages(1, 1), ("needs:a", "needs:b"))],
                       labels=[("a",), ("b", "a"), (), ("b", "c")])
        self.check(made, [], [(0, "needs"), (4, 0), (0, "needs"), (0, "needs")])

    def test_bars(self):
        made = cluster([(4,)] * 4, [(stages(1, 1), ("bars:a", "bars:b"))],
                       labels=[("a",), ("c",), (), ("c", "b")])
        self.check(made, [], [(0, "bars"), (4, 0), (4, 0), (0, "bars")])

    def test_likes_do_not_matter(self):
        made = cluster([(4,)] * 2, [(stages(1, 1), ("likes:a",))], labels=[("a",), ()])
        self.check(made, [], [(4, 0), (4, 0)])

    def test_never_works_in_both_directions(self):
        made = cluster([(4,)] * 2, [(stages(1, 1), ("never:b",)), (stages(1, 1), ()), (stages(1, 1), ())])
        rows = [(0, 0, 1, (1,), 1), (1, 0, 1, (1,), 2)]
        self.check(made, rows, [(0, "never"), (3, 0)], gang=(0, 0))
        self.check(made, [(0, 0, 1, (1,), 0)], [(0, "never"), (4, 0)], gang=(1, 0))
        self.check(made, rows, [(3, 0), (3, 0)], gang=(1, 0))
        self.check(made, rows, [(3, 0), (3, 0)], gang=(2, 0))

    def test_never_with_its_own_name(self):
        made = cluster([(4,)] * 2, [(stages(2, 1), ("never:a",)), (stages(1, 1), ())])
        self.check(made, [(0, 0, 1, (1,), 0), (1, 0, 1, (1,), 1)], [(0, "never"), (3, 0)])
        self.check(made, [(0, 0, 1, (1,), 0)], [(3, 0), (4, 0)], gang=(1, 0))
        # The tasks of one job may share a machine.
        self.assertEqual(list(placings(Takes(made, []), GANG, HOUR)), [(0, 2), (1, 1), (2, 0)])

    def test_never_only_in_common_hours(self):
        made = cluster([(4,)], [(stages(1, 1), ("never:b",)), (stages(1, 1), ())])
        rows = [(0, 2, 4, (1,), 1)]
        self.check(made, rows, [(4, 0)], span=Span(0, 2))
        self.check(made, rows, [(0, "never")], span=Span(0, 3))
        self.check(made, rows, [(0, "never")], span=Span(3, 9))
        self.check(made, rows, [(4, 0)], span=Span(4, 9))

    def test_takes_of_no_template_are_no_foes(self):
        made = cluster([(4,)], [(stages(1, 1), ("never:a",))])
        self.check(made, [(0, 0, 1, (1,), -1)], [(3, 0)])

    def test_apart(self):
        made = cluster([(4, 9), (2, 9), (1, 9), (0, 9), (9, 1)], [(stages(1, 1, 1), ("apart",))])
        self.check(made, [], [(1, "apart"), (1, "apart"), (1, 0), (0, 0), (1, 1)])

    def test_near_does_not_matter(self):
        made = cluster([(4,), (4,)], [(stages(6, 1), ("near",))], zones=["x", "y"])
        self.check(made, [], [(4, 0), (4, 0)])

    def test_the_first_rule_that_applies(self):
        made = cluster([(4,)], [(stages(1, 9), ("needs:x", "bars:y", "never:b", "apart")), (stages(1, 1), ())],
                       labels=[("y",)])
        rows = [(0, 0, 1, (4,), 1)]
        self.check(made, rows, [(0, "barred")], barred=(0,))
        self.check(made, rows, [(0, "needs")])
        made = cluster([(4,)], [(stages(1, 9), ("needs:x", "bars:y", "never:b", "apart")), (stages(1, 1), ())],
                       labels=[("y", "x")])
        self.check(made, rows, [(0, "bars")])
        made = cluster([(4,)], [(stages(1, 9), ("needs:x", "bars:y", "never:b", "apart")), (stages(1, 1), ())],
                       labels=[("x",)])
        self.check(made, rows, [(0, "never")])
        self.check(made, [(0, 0, 1, (4,), 0)], [(0, 0)])


class StandsTest(unittest.TestCase):
    def test_bounds(self):
        made = cluster([(4,), (2,)], [(stages(3, 1), ())])
        takes = Takes(made, [(0, 0, 1, (2,), -1)])
        for counts, wanted in (((2, 1), True), ((1, 2), True), ((3, 0), False), ((0, 3), False)):
            self.assertIs(stands(takes, GANG, HOUR, counts), wanted)
        self.assertIs(stands(takes, GANG, Span(1, 2), (3, 0)), True)
        self.assertIs(stands(takes, GANG, Span(0, 2), (3, 0)), False)

    def test_barred(self):
        made = cluster([(4,), (4,)], [(stages(2, 1), ())])
        self.assertIs(stands(Takes(made, []), GANG, HOUR, (1, 1)), True)
        self.assertIs(stands(Takes(made, []), GANG, HOUR, (1, 1), (1,)), False)
        self.assertIs(stands(Takes(made, []), GANG, HOUR, (2, 0), (1,)), True)
        self.assertIs(stands(Takes(made, []), GANG, HOUR, (0, 2), barred=(0,)), True)

    def test_near(self):
        made = cluster([(4,)] * 3, [(stages(2, 1), ("near",)), (stages(2, 1), ())], zones=["x", "y", "x"])
        for counts, wanted in (((1, 1, 0), False), ((1, 0, 1), True), ((0, 2, 0), True), ((0, 1, 1), False)):
            self.assertIs(stands(Takes(made, []), GANG, HOUR, counts), wanted)
            self.assertIs(stands(Takes(made, []), (1, 0), HOUR, counts), True)

    def test_apart(self):
        made = cluster([(4,)] * 2, [(stages(2, 1), ("apart",))])
        self.assertIs(stands(Takes(made, []), GANG, HOUR, (1, 1)), True)
        self.assertIs(stands(Takes(made, []), GANG, HOUR, (2, 0)), False)


class PlacingsTest(unittest.TestCase):
    def check(self, made, wanted, rows=(), barred=()):
        self.assertEqual(list(placings(Takes(made, list(rows)), GANG, HOUR, barred)), wanted)

    def test_ascending(self):
        made = cluster([(4,), (1,), (9,)], [(stages(3, 1), ())])
        self.check(made, [(0, 0, 3), (0, 1, 2), (1, 0, 2), (1, 1, 1), (2, 0, 1), (2, 1, 0), (3, 0, 0)])

    def test_barred_near_apart(self):
        made = cluster([(4,), (4,), (4,)], [(stages(2, 1), ("near",))], zones=["x", "y", "x"])
        self.check(made, [(0, 0, 2), (0, 2, 0), (1, 0, 1), (2, 0, 0)])
        self.check(made, [(0, 2, 0), (2, 0, 0)], barred=(2,))
        made = cluster([(4,), (4,), (4,)], [(stages(2, 1), ("apart",))])
        self.check(made, [(0, 1, 1), (1, 0, 1), (1, 1, 0)])

    def test_none(self):
        self.check(cluster([(4,), (4,)], [(stages(2, 5), ())]), [])
        self.check(cluster([(1,), (1,)], [(stages(3, 1), ())]), [])

    def test_one_machine(self):
        self.check(cluster([(4,)], [(stages(4, 1), ())]), [(4,)])

    def test_all_rows_of_six_tasks_on_six_machines(self):
        made = cluster([(6,)] * 6, [(stages(6, 1), ())])
        wanted = [row for row in itertools.product(range(7), repeat=6) if sum(row) == 6]
        self.check(made, wanted)
        self.assertEqual(len(wanted), 462)

    def test_it_yields(self):
        made = cluster([(6,)] * 6, [(stages(6, 1), ())])
        rows = placings(Takes(made, []), GANG, HOUR)
        self.assertIs(iter(rows), rows)
        self.assertEqual(next(rows), (0, 0, 0, 0, 0, 6))


class ShortageTest(unittest.TestCase):
    def test_attributes_and_note(self):
        made = cluster([(1, 2), (9, 9)], [(stages(1, 1, 1), ()), (((1, (1, 1), 1), (2, (1, 1), 4)), ("needs:x",))],
                       labels=[("x",), ()])
        short = fit(Takes(made, []), (1, 1), Span(3, 7), "first")
        self.assertIsInstance(short, Shortage)
        self.assertEqual((short.gang, short.start, short.end), ((1, 1), 3, 7))
        self.assertEqual(short.rows, ((1, 0), (0, "needs")))
        self.assertIsInstance(short.rows, tuple)
        self.assertEqual(short.note(), ("shortage", (1, 1), 3, 7, ((1, 0), (0, "needs"))))
        self.assertEqual(read_note(write_note(short.note())), short.note())

    def test_kind(self):
        short = Shortage((0, 1), 2, 3, ())
        self.assertIsInstance(short, Certificate)
        self.assertIsInstance(short, No)
        self.assertIs(short.holds(), False)
        self.assertEqual(Shortage.__bases__, (Certificate, No))

    def test_arguments_are_stored_as_they_are(self):
        gang, rows = (5, -6), ((9, "x"),)
        short = Shortage(gang, 8, 7, rows)
        self.assertIs(short.gang, gang)
        self.assertIs(short.rows, rows)
        self.assertEqual((short.start, short.end), (8, 7))
        self.assertEqual(short.note(), ("shortage", (5, -6), 8, 7, ((9, "x"),)))

    def test_bounds_that_suffice_and_do_not(self):
        made = cluster([(2,), (1,)], [(stages(3, 1), ()), (stages(4, 1), ())])
        self.assertEqual(fit(Takes(made, []), (0, 0), HOUR, "first"), (2, 1))
        self.assertEqual(fit(Takes(made, []), (1, 0), HOUR, "first").rows, ((2, 0), (1, 0)))

    def test_near_needs_one_zone_that_suffices(self):
        made = cluster([(2,), (1,), (2,)], [(stages(3, 1), ("near",))], zones=["x", "x", "y"])
        self.assertEqual(fit(Takes(made, []), GANG, HOUR, "first"), (2, 1, 0))
        for word in ("first", "tight", "loose"):
            short = fit(Takes(made, []), GANG, HOUR, word, (1,))
            self.assertEqual(short.rows, ((2, 0), (0, "barred"), (2, 0)))

    def test_negative_free_amounts(self):
        made = cluster([(2,), (4,)], [(stages(3, 1), ())])
        takes = Takes(made, [(0, 0, 1, (5,), -1)])
        self.assertEqual(fit(takes, GANG, HOUR, "tight"), (0, 3))


class FitTest(unittest.TestCase):
    def check(self, made, wanted, rows=(), barred=(), gang=GANG, span=HOUR):
        """wanted has the placings for the words first, tight and loose."""
        takes = Takes(made, list(rows))
        for word, counts in zip(("first", "tight", "loose"), wanted):
            found = fit(takes, gang, span, word, barred)
            self.assertEqual(found, counts, word)
            self.assertIsInstance(found, tuple)

    def test_the_three_words(self):
        made = cluster([(3,), (1,), (5,)], [(stages(3, 1), ())])
        self.check(made, [(3, 0, 0), (2, 1, 0), (0, 0, 3)])
        self.check(made, [(0, 1, 2), (0, 1, 2), (0, 0, 3)], barred=(0,))

    def test_free_amounts_in_the_span_count(self):
        made = cluster([(3,), (3,)], [(((2, (1,), 1), (2, (1,), 2)), ())])
        rows = [(1, 1, 2, (2,), -1)]
        self.check(made, [(2, 0), (2, 0), (2, 0)], rows)
        self.check(made, [(2, 0), (1, 1), (2, 0)], rows, gang=(0, 1), span=Span(0, 2))

    def test_equal_amounts_go_by_index(self):
        made = cluster([(2,), (2,), (2,)], [(stages(3, 1), ())])
        self.check(made, [(2, 1, 0)] * 3)

    def test_amounts_are_compared_as_tuples(self):
        made = cluster([(2, 9), (2, 3), (3, 1)], [(stages(1, 1, 1), ())])
        self.check(made, [(1, 0, 0), (0, 1, 0), (0, 0, 1)])
        made = cluster([(2, 3), (2, 9), (1, 8)], [(stages(1, 1, 1), ())])
        self.check(made, [(1, 0, 0), (0, 0, 1), (0, 1, 0)])

    def test_negative_amounts_are_compared_too(self):
        made = cluster([(4, 4), (4, 4)], [(stages(1, 0, 1), ())])
        self.check(made, [(1, 0), (0, 1), (1, 0)], [(0, 0, 1, (5, 0), -1), (1, 0, 1, (6, 0), -1)])

    def test_preferences_come_first(self):
        made = cluster([(2,), (1,), (9,), (3,)], [(stages(4, 1), ("likes:a", "likes:b"))],
                       labels=[(), ("a",), ("c",), ("b", "a")])
        self.check(made, [(0, 1, 0, 3)] * 3)
        self.check(made, [(2, 1, 1, 0), (2, 1, 1, 0), (0, 1, 3, 0)], barred=(3,))

    def test_equal_preferences_go_by_the_word(self):
        made = cluster([(9,), (3,), (1,), (9,)], [(stages(3, 1), ("likes:a", "likes:b"))],
                       labels=[(), ("a",), ("b",), ()])
        self.check(made, [(0, 3, 0, 0), (0, 2, 1, 0), (0, 3, 0, 0)])

    def test_near_takes_the_zone_of_the_greatest_worth(self):
        made = cluster([(3,), (3,), (3,), (3,)], [(stages(3, 1), ("near", "likes:a"))],
                       zones=["x", "x", "y", "y"], labels=[(), (), (), ("a",)])
        self.check(made, [(0, 0, 0, 3)] * 3)

    def test_near_with_equal_worth_takes_the_zone_of_the_least_index(self):
        made = cluster([(1,), (9,), (3,), (3,)], [(stages(3, 1), ("near",))], zones=["x", "y", "x", "y"])
        self.check(made, [(1, 0, 2, 0), (1, 0, 2, 0), (0, 0, 3, 0)])
        # The barred machine of zone x has the least index, so x stays first.
        self.check(made, [(0, 0, 3, 0)] * 3, barred=(0,))

    def test_near_only_zones_that_suffice(self):
        made = cluster([(2,), (1,), (2,)], [(stages(3, 1), ("near", "likes:a"))],
                       zones=["x", "y", "y"], labels=[("a",), (), ()])
        self.check(made, [(0, 1, 2), (0, 1, 2), (0, 1, 2)])

    def test_near_gives_each_zone_all_tasks(self):
        made = cluster([(3,), (1,), (2,)], [(stages(3, 1), ("near", "likes:a"))],
                       zones=["x", "y", "y"], labels=[(), ("a",), ()])
        self.check(made, [(0, 1, 2), (0, 1, 2), (0, 1, 2)])

    def test_apart(self):
        made = cluster([(9,), (8,), (7,)], [(stages(2, 1), ("apart",))])
        self.check(made, [(1, 1, 0), (0, 1, 1), (1, 1, 0)])

    def test_against_all_placings(self):
        source = random.Random(8)
        met = 0
        for _ in range(400):
            many = source.randint(1, 4)
            labels = [tuple(source.sample(("a", "b", "c"), source.randint(0, 3))) for _ in range(many)]
            wishes = source.sample(("near", "apart", "likes:a", "likes:b", "needs:c", "bars:c", "never:b"), source.randint(0, 4))
            made = cluster([(source.randint(1, 4), source.randint(1, 4)) for _ in range(many)],
                           [(stages(source.randint(1, 4), 1, source.randint(0, 1)), tuple(wishes)), (stages(1, 1, 1), ())],
                           zones=[source.choice("xyz") for _ in range(many)], labels=labels)
            takes = Takes(made, [(source.randrange(many), source.randint(0, 1), source.randint(2, 3),
                                  (source.randint(0, 2), source.randint(0, 2)), source.randint(-1, 1))
                                 for _ in range(source.randint(0, 3))])
            barred = tuple(source.sample(range(many), source.randint(0, 1)))
            span = Span(0, source.randint(1, 3))
            limits = [pair[0] for pair in bounds(takes, GANG, span, barred)]
            tasks = made.stage_of(GANG).tasks
            standing = [row for row in itertools.product(range(tasks + 1), repeat=many) if sum(row) == tasks
                        and all(count <= limit for count, limit in zip(row, limits))
                        and ("near" not in wishes or len({made.machines[at].zone for at in range(many) if row[at]}) == 1)]
            self.assertEqual(list(placings(takes, GANG, span, barred)), standing)
            for row in itertools.product(range(tasks + 1), repeat=many):
                if sum(row) == tasks:
                    self.assertIs(stands(takes, GANG, span, row, barred), row in standing)
            for word in ("first", "tight", "loose"):
                found = fit(takes, GANG, span, word, barred)
                if standing:
                    self.assertIn(found, standing)
                    self.assertEqual(worth(made, GANG, found), max(worth(made, GANG, row) for row in standing))
                    met += 1
                else:
                    self.assertEqual(found.rows, tuple(bounds(takes, GANG, span, barred)))
        self.assertGreater(met, 200)


class WorthTest(unittest.TestCase):
    def test_count_times_preference(self):
        made = cluster([(9,)] * 4, [(stages(5, 1), ("likes:a", "likes:b", "needs:c")), (stages(5, 1), ())],
                       labels=[("a",), ("b", "c", "a"), ("c",), ()])
        self.assertEqual(worth(made, (0, 0), (1, 3, 1, 0)), 7)
        self.assertEqual(worth(made, (0, 0), (0, 0, 1, 4)), 0)
        self.assertEqual(worth(made, (0, 0), (5, 0, 0, 0)), 5)
        self.assertEqual(worth(made, (1, 0), (1, 3, 1, 0)), 0)


class TakesOfTest(unittest.TestCase):
    def test_one_take_for_each_machine_with_tasks(self):
        made = cluster([(9, 9)] * 3, [(stages(1, 1, 1), ()), (((4, (2, 3), 5), (2, (0, 7), 5)), ())])
        self.assertEqual(takes_of(made, (1, 0), Span(4, 9), (3, 0, 1)), [(0, 4, 9, (6, 9), 1), (2, 4, 9, (2, 3), 1)])
        self.assertEqual(takes_of(made, (1, 1), Span(0, 1), (0, 2, 0)), [(1, 0, 1, (0, 14), 1)])
        self.assertEqual(takes_of(made, (0, 0), Span(7, 8), (0, 0, 1)), [(2, 7, 8, (1, 1), 0)])


class UnchangedTest(unittest.TestCase):
    def test_nothing_is_changed(self):
        made = cluster([(4, 4), (4, 4)], [(stages(2, 1, 1), ("near",))])
        rows = [(0, 0, 1, (1, 1), 0)]
        takes, span, counts, barred = Takes(made, rows), Span(0, 2), (1, 1), (1,)
        bounds(takes, GANG, span, barred).clear()
        stands(takes, GANG, span, counts, barred)
        list(placings(takes, GANG, span, barred))
        for word in ("first", "tight", "loose"):
            fit(takes, GANG, span, word, barred)
        takes_of(made, GANG, span, counts).clear()
        self.assertEqual((list(takes), span.start, span.end), (rows, 0, 2))
        self.assertEqual(bounds(takes, GANG, span, barred), [(3, 0), (0, "barred")])
        self.assertEqual(len(takes_of(made, GANG, span, counts)), 2)


if __name__ == "__main__":
    unittest.main()
