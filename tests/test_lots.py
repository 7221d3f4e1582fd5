"""Points 27 and 28: lots within the floors, and whether they can be packed."""

import itertools
import random
import types
import unittest

from gangbooks.cluster import Cluster
from gangbooks.errors import TooWide
from gangbooks.lots import Crowded, FloorPlan, floors_hold, full_lots
from gangbooks.notes import Certificate, No, Yes, read_note, write_note
from gangbooks.packing import Packing, pack
from gangbooks.spans import Span
from gangbooks.takes import Takes
from tests.support import refuse


def cluster(machines, groups, templates):
    """A cluster from machines (amounts, labels), groups (name, parent, floor), templates (group, stage, wishes)."""
    many = len(machines[0][0])
    return Cluster(
        ["r1", "r2", "r3"][:many],
        [(f"m{at}", "z", labels, amounts) for at, (amounts, labels) in enumerate(machines)],
        [(name, parent, 1, floor, None) for name, parent, floor in groups],
        [("abcdefgh"[at], group, 0, 0, (stage,), wishes) for at, (group, stage, wishes) in enumerate(templates)])


def one_group(amounts, floor, stages, wishes=()):
    """A cluster with a machine for each amount, and one group with this floor of one resource."""
    return cluster([((amount,), ()) for amount in amounts], [("g", "", (floor,))], [("g", stage, wishes) for stage in stages])


def is_within(made, lot):
    for at, group in enumerate(made.groups):
        for k, most in enumerate(group.floor):
            if sum(count * made.stage_of((template, 0)).total[k] for template, count in enumerate(lot)
                   if at in made.groups[made.templates[template].group].path) > most:
                return False
    return True


def all_lots(made, most=13):
    return [lot for lot in itertools.product(range(most), repeat=len(made.templates)) if is_within(made, lot)]


def all_full(made, most=13):
    lots = all_lots(made, most)
    return [lot for lot in lots
            if not any(is_within(made, (*lot[:at], lot[at] + 1, *lot[at + 1:])) for at in range(len(lot)))]


def pack_lot(made, lot):
    items = [((template, 0), Span(0, 1), None) for template, count in enumerate(lot) for _ in range(count)]
    return pack(Takes(made, []), items)


def plain_answer(made):
    """Point 28, word by word."""
    for lot in sorted(all_lots(made), key=lambda lot: (sum(lot), lot)):
        found = pack_lot(made, lot)
        if not isinstance(found, Packing):
            return ("crowded", lot, found.node)
    return ("floors", tuple((lot, pack_lot(made, lot).places) for lot in all_full(made)))


TREE = cluster(
    [((20, 9), ())], [("top", "", (7, 9)), ("mid", "top", (5, 9)), ("low", "mid", (3, 4)), ("leaf", "low", (3, 4)),
                      ("side", "mid", (2, 5)), ("free", "", (2, 0))],
    [("leaf", (1, (1, 1), 1), ()), ("side", (2, (1, 0), 5), ()), ("free", (1, (1, 0), 1), ()), ("leaf", (1, (2, 0), 1), ())])


class FullLotsTest(unittest.TestCase):
    def test_one_group(self):
        made = one_group([30], 7, [(1, (2,), 1), (1, (3,), 1)])
        self.assertEqual(list(full_lots(made)), [(0, 2), (2, 1), (3, 0)])

    def test_floors_one_above_the_other(self):
        self.assertEqual(list(full_lots(TREE)), [(1, 1, 2, 1), (3, 1, 2, 0)])
        self.assertEqual(list(full_lots(TREE)), all_full(TREE))

    def test_four_deep(self):
        # The floor of a group holds those below it, so the least one of a path is that of the leaf.
        groups = [("a", ""), ("b", "a"), ("c", "b"), ("d", "c")]
        for cut in range(4):
            made = cluster([((30,), ())], [(name, parent, (9 if at < cut else 5,)) for at, (name, parent) in enumerate(groups)],
                           [("d", (1, (2,), 1), ())])
            self.assertEqual(list(full_lots(made)), [(2,)])

    def test_the_floors_just_hold_a_total_and_one_less(self):
        self.assertEqual(list(full_lots(one_group([30], 6, [(3, (2,), 1)]))), [(1,)])
        self.assertEqual(list(full_lots(one_group([30], 5, [(3, (2,), 1)]))), [(0,)])
        self.assertEqual(list(full_lots(one_group([30], 0, [(1, (1,), 1), (2, (2,), 1)]))), [(0, 0)])

    def test_only_the_first_stage_counts(self):
        made = Cluster(["r"], [("m", "z", (), (9,))], [("g", "", 1, (4,), (4,))],
                       [("a", "g", 0, 0, ((1, (2,), 1), (1, (9,), 1)), ())])
        self.assertEqual(list(full_lots(made)), [(2,)])

    def test_every_resource_counts(self):
        made = cluster([((9, 9, 9), ())], [("g", "", (4, 4, 1))], [("g", (1, (1, 2, 0), 1), ()), ("g", (1, (1, 0, 1), 1), ())])
        self.assertEqual(list(full_lots(made)), [(2, 1)])

    def test_it_yields_tuples(self):
        self.assertIsInstance(full_lots(TREE), types.GeneratorType)
        self.assertTrue(all(isinstance(lot, tuple) for lot in full_lots(TREE)))

    def test_1000_and_1001_lots(self):
        self.assertEqual(list(full_lots(one_group([999], 999, [(1, (1,), 1)]))), [(999,)])
        refuse(self, TooWide, 1000, list, full_lots(one_group([1000], 1000, [(1, (1,), 1)])))
        # 10 * 10 * 10 lots, and 7 * 11 * 13.
        for floors, wide in (((9, 9, 9), False), ((6, 10, 12), True), ((1, 499, 0), False), ((1, 500, 0), True)):
            made = cluster([((1000,), ())], [("ghi"[at], "", (floor,)) for at, floor in enumerate(floors)],
                           [("ghi"[at], (1, (1,), 1), ()) for at in range(3)])
            if wide:
                refuse(self, TooWide, 1000, list, full_lots(made))
                refuse(self, TooWide, 1000, floors_hold, made)
            else:
                self.assertEqual(list(full_lots(made)), [floors])

    def test_too_wide_comes_before_the_first_lot(self):
        lots = full_lots(one_group([9999], 9999, [(1, (1,), 1), (1, (1,), 1), (1, (1,), 1)]))
        refuse(self, TooWide, 1000, next, lots)

    def test_random_floors(self):
        dice = random.Random(27)
        for _ in range(60):
            made = random_cluster(dice)
            self.assertEqual(list(full_lots(made)), all_full(made))


class FloorsHoldTest(unittest.TestCase):
    def test_a_plan(self):
        made = one_group([5, 4], 7, [(1, (2,), 1), (1, (3,), 1)])
        found = floors_hold(made)
        self.assertIsInstance(found, FloorPlan)
        self.assertEqual(found.rows, (
            ((0, 2), ((0, 1), (1, 0))), ((2, 1), ((0, 1), (0, 1), (1, 0))), ((3, 0), ((0, 1), (0, 1), (1, 0)))))
        self.assertIsInstance(found.rows, tuple)

    def test_the_first_crowded_lot(self):
        # Two gangs of 2 do not go on machines with 3 and 1.
        found = floors_hold(one_group([3, 1], 4, [(1, (2,), 1)]))
        self.assertIsInstance(found, Crowded)
        self.assertEqual(found.lot, (2,))
        self.assertEqual(found.node, pack_lot(one_group([3, 1], 4, [(1, (2,), 1)]), (2,)).node)
        self.assertEqual(found.node, ("cases", ((1, 0), ("short", ((0, 0), (0, 0))))))

    def test_the_lesser_number_of_gangs_comes_first(self):
        # Three gangs of a are crowded, and two of b: (0, 2) comes before (3, 0).
        made = cluster([((2,), ()), ((3,), ())], [("g", "", (3,)), ("h", "", (2,))],
                       [("g", (1, (1,), 1), ("never:a",)), ("h", (1, (1,), 1), ("needs:x",))])
        self.assertEqual(floors_hold(made).lot, (0, 1))
        made = cluster([((9,), ()), ((9,), ())], [("g", "", (6,)), ("h", "", (4,))],
                       [("g", (1, (2,), 1), ("never:a",)), ("h", (1, (1,), 1), ("never:b",))])
        self.assertEqual(floors_hold(made).lot, (0, 3))

    def test_of_lots_with_the_same_number_the_least_tuple_comes_first(self):
        made = cluster([((9,), ())], [("g", "", (4,)), ("h", "", (4,))],
                       [("g", (1, (2,), 1), ("never:a",)), ("h", (1, (2,), 1), ("never:b",))])
        self.assertEqual(floors_hold(made).lot, (0, 2))
        made = cluster([((9,), ())], [("g", "", (4,)), ("h", "", (2,))],
                       [("g", (1, (2,), 1), ("never:a",)), ("h", (1, (2,), 1), ("never:a",))])
        self.assertEqual(floors_hold(made).lot, (1, 1))

    def test_a_lot_that_is_not_full(self):
        # The full lots are (0, 3) and (1, 0); (0, 2) is crowded already.
        made = one_group([9], 3, [(1, (3,), 1), (1, (1,), 1)], ("never:b",))
        found = floors_hold(made)
        self.assertEqual((found.lot, found.note()), ((0, 2), plain_answer(made)))

    def test_the_first_stages_are_packed(self):
        for stages in (((1, (2,), 1), (1, (9,), 1)), ((1, (2,), 1), (1, (3,), 1))):
            made = Cluster(["r"], [("m", "z", (), (4,)), ("n", "z", (), (1,))], [("g", "", 1, (4,), None)], [("a", "g", 0, 0, stages, ())])
            self.assertEqual(floors_hold(made).rows, (((2,), ((1, 0), (1, 0))),))

    def test_the_empty_lot_is_always_packed(self):
        self.assertEqual(floors_hold(one_group([3], 0, [(1, (9,), 1)])).rows, (((0,), ()),))
        self.assertEqual(floors_hold(one_group([3], 3, [(1, (9,), 1)])).rows, (((0,), ()),))

    def test_1000_lots(self):
        found = floors_hold(one_group([999], 999, [(1, (1,), 1)]))
        self.assertEqual(found.rows, (((999,), ((1,),) * 999),))
        refuse(self, TooWide, 1000, floors_hold, one_group([1000], 1000, [(1, (1,), 1)]))

    def test_too_many_lots_come_before_a_crowded_one(self):
        refuse(self, TooWide, 1000, floors_hold, one_group([2000], 1000, [(1, (1,), 1)], ("needs:x",)))

    def test_errors_of_pack_are_passed_on(self):
        # 13 gangs with two rows each; 12 are packed.
        refuse(self, TooWide, 4096, floors_hold, one_group([8, 8], 13, [(1, (1,), 1)]))
        found = floors_hold(one_group([8, 8], 12, [(1, (1,), 1)]))
        self.assertEqual([lot for lot, _ in found.rows], [(12,)])

    def test_a_crowded_lot_comes_before_one_that_is_too_wide(self):
        machines = [((30,), ()), ((30,), ())]
        for many, wanted in ((3, (0, 3)), (2, None)):
            made = cluster(machines, [("g", "", (13,)), ("h", "", (many,))],
                           [("g", (1, (1,), 1), ()), ("h", (1, (1,), 1), ("never:b",))])
            if wanted is None:
                refuse(self, TooWide, 4096, floors_hold, made)
            else:
                self.assertEqual(floors_hold(made).lot, wanted)

    def test_a_lot_that_is_too_wide_comes_before_a_crowded_one(self):
        # The lots of 13 gangs come before those of 41, of which one is crowded.
        made = cluster([((40,), ("x",)), ((40,), ())], [("g", "", (13,)), ("h", "", (60,))],
                       [("g", (1, (1,), 1), ()), ("h", (1, (1,), 1), ("needs:x",))])
        refuse(self, TooWide, 4096, floors_hold, made)

    def test_a_long_row_of_lots_with_a_crowded_one(self):
        made = cluster([((500,), ("x",)), ((499,), ())], [("g", "", (999,))], [("g", (1, (1,), 1), ("needs:x",))])
        self.assertEqual(floors_hold(made).lot, (501,))

    def test_random_floors(self):
        dice = random.Random(28)
        kinds = set()
        for _ in range(150):
            made = random_cluster(dice)
            wanted = plain_answer(made)
            self.assertEqual(floors_hold(made).note(), wanted)
            kinds.add(wanted[0])
        self.assertEqual(kinds, {"floors", "crowded"})


def random_cluster(dice):
    """A cluster with a few lots within its floors."""
    machines = [((dice.randrange(1, 9), dice.randrange(1, 9)), dice.choice([(), ("x",)])) for _ in range(dice.randrange(1, 4))]
    left = [sum(amounts[k] for amounts, _ in machines) for k in range(2)]
    top = tuple(dice.randrange(min(number, 9) + 1) for number in left)
    groups = [("g", "", top), ("h", "g", tuple(dice.randrange(number + 1) for number in top)),
              ("i", "", tuple(dice.randrange(min(number - one, 4) + 1) for number, one in zip(left, top)))]
    wishes = [(), (), ("apart",), ("needs:x",), ("bars:x",), ("never:a",), ("near",)]
    templates = [(dice.choice("hi"), (dice.randrange(1, 4), dice.choice([(1, 0), (0, 1), (1, 1), (2, 1)]), 1), dice.choice(wishes))
                 for _ in range(dice.randrange(1, 4))]
    return cluster(machines, groups, templates)


class CertificateTest(unittest.TestCase):
    def test_notes(self):
        made = one_group([5, 4], 7, [(1, (2,), 1), (1, (3,), 1)])
        found = floors_hold(made)
        self.assertEqual(found.note(), ("floors", found.rows))
        self.assertEqual(read_note(write_note(found.note())), found.note())
        found = floors_hold(one_group([3, 1], 4, [(1, (2,), 1)]))
        self.assertEqual(found.note(), ("crowded", (2,), found.node))
        self.assertEqual(read_note(write_note(found.note())), found.note())

    def test_kinds(self):
        for kind, word, other, made in ((FloorPlan, Yes, No, FloorPlan(())), (Crowded, No, Yes, Crowded((), ()))):
            self.assertTrue(issubclass(kind, Certificate) and issubclass(kind, word) and not issubclass(kind, other))
            self.assertIs(made.holds(), word is Yes)

    def test_arguments_are_stored_as_they_are(self):
        rows = (((1, -2), "no places"),)
        self.assertIs(FloorPlan(rows).rows, rows)
        self.assertEqual(FloorPlan(rows).note(), ("floors", rows))
        made = Crowded((3, -1), ("any", (1,)))
        self.assertEqual((made.lot, made.node, made.note()), ((3, -1), ("any", (1,)), ("crowded", (3, -1), ("any", (1,)))))


if __name__ == "__main__":
    unittest.main()
