"""Point 77: the checkers of the certificates about places, groups and single states."""

import itertools
import random
import unittest

from gangbooks.certificates import certificate_text, read_certificate
from gangbooks.checks import (
    check_blockers, check_floors, check_levels, check_moves, check_packing, check_quote, check_settlement, check_shortage, check_survival, check_tree)
from gangbooks.errors import GangError, TooWide
from gangbooks.failing import Frail, Survival, survives
from gangbooks.fitting import Shortage, bounds, fit, placings, stands, takes_of
from gangbooks.levels import Levels, Wants, fair
from gangbooks.lots import Crowded, FloorPlan, floors_hold, full_lots
from gangbooks.moving import MovePlan, Stuck, allowed, move_plan, moved
from gangbooks.packing import CaseTree, Packing, pack
from gangbooks.reserve import Blockers, NoQuote, Quote, earliest, in_the_way
from gangbooks.settle import Settlement, settle
from gangbooks.shares import Share
from gangbooks.spans import Span
from gangbooks.state import State
from gangbooks.takes import Takes
from tests.alter import STRANGE, altered_certificates
from tests.support import cluster, job, state
from tests.test_packing import item, search, stages
from tests.worlds import CALM, POLICIES, ROUGH, last_state, random_book, random_cluster

FREE = "age first never free"
HOUR = Span(0, 1)
# A certificate of each class; a checker says no to those of other classes.
ALL = [read_certificate(text) for text in STRANGE.split("\n")]


def rows_of_counts(many, tasks):
    """All rows of counts for so many machines and tasks."""
    return [row for row in itertools.product(range(tasks + 1), repeat=many) if sum(row) == tasks]


def is_row(made, gang, counts):
    return len(counts) == len(made.machines) and min(counts) >= 0 and sum(counts) == made.stage_of(gang).tasks


def right_shortage(takes, shortage, barred=()):
    (template, stage), templates = shortage.gang, takes.cluster.templates
    if not (0 <= template < len(templates) and 0 <= stage < len(templates[template].stages) and 0 <= shortage.start < shortage.end):
        return False
    span = Span(shortage.start, shortage.end)
    if shortage.end > 10 ** 6:
        return None
    return tuple(bounds(takes, shortage.gang, span, barred)) == shortage.rows and not list(placings(takes, shortage.gang, span, barred))


def right_packing(takes, items, places, barred=(), shut=()):
    if len(places) != len(items):
        return False
    for (gang, span, present), counts in zip(items, places):
        if not is_row(takes.cluster, gang, counts):
            return False
        if not stands(takes, gang, span, counts, barred if counts == present else (*barred, *shut)):
            return False
        takes = takes + takes_of(takes.cluster, gang, span, counts)
    return True


def right_tree(takes, items, node, barred=(), shut=()):
    return (False, node) == search(takes, items, barred, shut)


class CheckTest(unittest.TestCase):
    def check(self, right, checker, *args, **named):
        """Check the answer of a checker, and the same for the certificate that is read from its text."""
        self.assertIs(checker(*args, **named), right)
        certificate = args[1] if checker is check_shortage else args[-1]
        again = read_certificate(certificate_text(certificate))
        self.assertIs(checker(*[again if arg is certificate else arg for arg in args], **named), right)

    def check_others(self, kinds, checker, *args):
        """Check that a checker says no to certificates of other classes; the last argument is left out."""
        for certificate in ALL:
            found = checker(*args, certificate)
            self.assertIn(found, (True, False))
            if not isinstance(certificate, kinds):
                self.assertIs(found, False, certificate.note())

    def check_altered(self, certificate, checker, args, right, dice, many=40, **named):
        """Check altered certificates against what right tells of them; None stands for what is not known."""
        for made in altered_certificates(certificate, dice, many):
            wanted = right(made)
            found = checker(*args, made, **named)
            self.assertIn(found, (True, False))
            if wanted is not None:
                self.assertIs(found, wanted, (certificate.note(), made.note()))


class ShortageTest(CheckTest):
    MADE = cluster([(2,), (1,)], [(stages(4, 1), ()), (stages(2, 1), ("near",)), (stages(1, 1), ())], zones=["y", "z"])

    def test_what_fit_returns(self):
        takes = Takes(self.MADE, [(0, 0, 5, (1,), 2)])
        for gang in ((0, 0), (1, 0)):
            self.check(True, check_shortage, takes, fit(takes, gang, Span(3, 6), "first"))
        barred = fit(takes, (2, 0), Span(0, 1), "tight", (0, 1))
        self.check(True, check_shortage, takes, barred, (0, 1))
        self.check(False, check_shortage, takes, barred)

    def test_bounds_that_suffice(self):
        takes = Takes(self.MADE, [])
        self.check(False, check_shortage, takes, Shortage((1, 0), 0, 1, tuple(bounds(takes, (1, 0), HOUR))))
        self.check(False, check_shortage, takes, Shortage((2, 0), 0, 1, tuple(bounds(takes, (2, 0), HOUR))))
        self.check(True, check_shortage, takes, Shortage((0, 0), 0, 1, tuple(bounds(takes, (0, 0), HOUR))))
        # With near the zones count, not the sum.
        narrow = takes + [(0, 0, 1, (1,), -1)]
        self.check(True, check_shortage, narrow, Shortage((1, 0), 0, 1, ((1, 0), (1, 0))))

    def test_spans(self):
        takes = Takes(self.MADE, [])
        for start, end, right in ((0, 1, True), (5, 9, True), (10 ** 30, 10 ** 31, True), (0, 0, False), (3, 3, False), (4, 3, False), (-1, 1, False)):
            self.check(right, check_shortage, takes, Shortage((0, 0), start, end, ((2, 0), (1, 0))))

    def test_strange_gangs_and_rows(self):
        takes = Takes(self.MADE, [])
        for gang in ((3, 0), (-1, 0), (0, 1), (0, -1), (99, 99), (-3, 0)):
            self.check(False, check_shortage, takes, Shortage(gang, 0, 1, ((2, 0), (1, 0))))
        for rows in ((), ((2, 0),), ((2, 0), (1, 0), (0, 0)), ((1, 0), (2, 0)), ((2, 0), (0, 0)), ((2, 1), (1, 0)), ((2, "needs"), (1, 0)), ((2, 0), (-1, 0))):
            self.check(False, check_shortage, takes, Shortage((0, 0), 0, 1, rows))

    def test_others(self):
        takes = Takes(self.MADE, [])
        self.check_others(Shortage, check_shortage, takes)

    def test_random_changes(self):
        dice = random.Random(1)
        tried = 0
        while tried < 60:
            made = random_cluster(dice, True)
            takes = Takes(made, [(dice.randrange(len(made.machines)), 0, dice.randrange(1, 9), (dice.randrange(5),) * len(made.resources), dice.randrange(-1, 2))
                                 for _ in range(dice.randrange(4))])
            barred = tuple(at for at in range(len(made.machines)) if dice.random() < 0.2)
            found = fit(takes, (dice.randrange(len(made.templates)), 0), Span(dice.randrange(5), 9), "first", barred)
            if isinstance(found, Shortage):
                tried += 1
                self.check(True, check_shortage, takes, found, barred)
                for other in altered_certificates(found, dice, 40):
                    right = right_shortage(takes, other, barred)
                    if right is not None:
                        self.assertIs(check_shortage(takes, other, barred), right, (found.note(), other.note()))


class PackingTest(CheckTest):
    MADE = cluster([(2,), (2,)], [(stages(1, 1), ()), (stages(2, 2), ()), (stages(2, 1), ("apart",)), (stages(3, 1), ())])

    def test_what_pack_returns(self):
        takes = Takes(self.MADE, [])
        for items in ([], [item(0), item(0), item(2)], [item(3), item(0, (1, 0))], [item(1)]):
            self.check(True, check_packing, takes, items, pack(takes, items))

    def test_another_order_of_tries(self):
        takes = Takes(self.MADE, [])
        self.assertEqual(pack(takes, [item(0)]).places, ((0, 1),))
        self.check(True, check_packing, takes, [item(0)], Packing(((1, 0),)))
        self.check(True, check_packing, takes, [item(0, (1, 0))], Packing(((0, 1),)))

    def test_rows_that_are_not_possible(self):
        takes = Takes(self.MADE, [])
        for items, places in (
                ([item(0)], ()), ([], ((1, 0),)), ([item(0)], ((1, 0), (0, 1))), ([item(0)], ((1,),)), ([item(0)], ((1, 0, 0),)), ([item(0)], ((),)),
                ([item(0)], ((0, 0),)), ([item(0)], ((2, 0),)), ([item(0)], ((2, -1),)), ([item(2)], ((2, 0),)), ([item(1)], ((2, 0),)),
                ([item(3), item(0)], ((2, 1), (1, 0))), ([item(0), item(3)], ((1, 0), (2, 1)))):
            self.check(False, check_packing, takes, items, Packing(places))
        self.check(True, check_packing, takes, [item(3), item(0)], Packing(((2, 1), (0, 1))))
        self.check(False, check_packing, takes + [(0, 0, 1, (1,), -1)], [item(3)], Packing(((2, 1),)))

    def test_barred_and_shut(self):
        takes = Takes(self.MADE, [])
        self.check(False, check_packing, takes, [item(0)], Packing(((1, 0),)), barred=(0,))
        self.check(False, check_packing, takes, [item(0)], Packing(((1, 0),)), shut=(0,))
        self.check(True, check_packing, takes, [item(0, (1, 0))], Packing(((1, 0),)), shut=(0,))
        self.check(False, check_packing, takes, [item(0, (1, 0))], Packing(((1, 0),)), barred=(0,), shut=(0,))
        self.check(False, check_packing, takes, [item(3, (1, 2))], Packing(((2, 1),)), shut=(0,))

    def test_trees(self):
        takes = Takes(self.MADE, [])
        for items, named in (([item(1), item(0)], {}), ([item(0)], {"barred": (0,), "shut": (1,)}), ([item(0), item(0, (1, 0)), item(1)], {"shut": (0,)})):
            tree = pack(takes, items, **named)
            self.assertIs(type(tree), CaseTree)
            self.check(True, check_tree, takes, items, tree, **named)
            self.check(False, check_tree, takes, [item(0)], tree)
            self.check(False, check_tree, takes, [], tree)

    def test_parts_of_a_tree(self):
        takes = Takes(cluster([(1,), (1,)], [(stages(1, 1), ())]), [])
        node = pack(takes, [item(0)] * 3).node
        self.assertEqual(node[:1] + (node[1][0],), ("cases", (0, 1)))
        short = ("short", ((0, 0), (0, 0)))
        self.assertEqual(node, ("cases", ((0, 1), ("cases", ((1, 0), short))), ((1, 0), ("cases", ((0, 1), short)))))
        self.check(True, check_tree, takes, [item(0)] * 3, CaseTree(node))
        for wrong in (short, ("cases",), ("cases", node[1]), ("cases", node[2], node[1]), ("cases", node[1], node[1], node[2]), ("cases", node[1], (node[2][0], short)),
                      ("cases", node[1], node[2], 0), ("cases", node[1], 5), ("cases", node[1], ((1, 0),)), ("cases", node[1], (*node[2], 0)), ("tree", *node[1:]),
                      (), ("short",), ("short", ()), ("short", 5), (5, 5, 5), ("cases", node[1], ((1, 0), 7)), ("cases", node[1], ((1, 0), None)), ("cases", node[1], "cases")):
            self.check(False, check_tree, takes, [item(0)] * 3, CaseTree(wrong))
        # The order of the tries is that of point 19, with the present row first.
        items = [item(0, (1, 0)), item(0), item(0)]
        self.check(False, check_tree, takes, items, CaseTree(node))
        self.check(True, check_tree, takes, items, CaseTree(("cases", node[2], node[1])))

    def test_items_that_can_be_packed(self):
        takes = Takes(self.MADE, [])
        self.check(False, check_tree, takes, [], CaseTree(()))
        self.check(False, check_tree, takes, [], CaseTree(("cases",)))
        self.check(False, check_tree, takes, [item(0)], CaseTree(("cases", ((0, 1), ()), ((1, 0), ()))))

    def test_others(self):
        takes = Takes(self.MADE, [])
        self.check_others(Packing, check_packing, takes, [item(0)])
        self.check_others(CaseTree, check_tree, takes, [item(3), item(3)])
        self.check_others(CaseTree, check_tree, takes, [])

    def test_random_changes(self):
        dice = random.Random(2)
        counts = {True: 0, False: 0}
        while min(counts.values()) < 40:
            made = random_cluster(dice)
            takes = Takes(made, [(dice.randrange(len(made.machines)), 0, dice.randrange(1, 5), (dice.randrange(3),) * len(made.resources), dice.randrange(-1, 2))
                                 for _ in range(dice.randrange(3))])
            barred, shut = [tuple(at for at in range(len(made.machines)) if dice.random() < 0.2) for _ in range(2)]
            items = []
            for _ in range(dice.randrange(4)):
                gang = (dice.randrange(len(made.templates)), 0)
                span = Span(dice.randrange(4), 5)
                items.append((gang, span, dice.choice([None, dice.choice(rows_of_counts(len(made.machines), made.stage_of(gang).tasks))])))
            try:
                found = pack(takes, items, barred=barred, shut=shut)
            except TooWide:
                continue
            counts[found.holds()] += 1
            if found.holds():
                self.check(True, check_packing, takes, items, found, barred=barred, shut=shut)
                self.check_altered(found, check_packing, (takes, items), lambda one: right_packing(takes, items, one.places, barred, shut), dice, barred=barred, shut=shut)
            elif len(certificate_text(found)) < 3000:
                self.check(True, check_tree, takes, items, found, barred=barred, shut=shut)
                self.check_altered(found, check_tree, (takes, items), lambda one: right_tree(takes, items, one.node, barred, shut), dice, barred=barred, shut=shut)


class LevelsTest(CheckTest):
    def test_what_fair_returns(self):
        dice = random.Random(3)
        modes = set()
        for _ in range(60):
            made = random_cluster(dice)
            wants = Wants(made, dice.randrange(len(made.resources)))
            for name, _ in list(wants):
                wants[name] = dice.randrange(12)
            levels = fair(wants, dice.choice([0, 1, dice.randrange(20), Share(dice.randrange(40), 3), 100]))
            modes |= {row[1] for row in levels.rows}
            self.check(True, check_levels, wants, levels)
            self.check_altered(levels, check_levels, (wants,), lambda one: self.right(wants, one), dice)
        self.assertEqual(modes, {"all", "above", "below"})

    def right(self, wants, levels):
        return levels.amount.sign >= 0 and levels.note() == fair(wants, levels.amount).note()

    def test_each_part(self):
        made = cluster([(9,)], [(stages(1, 1), ())])
        wants = Wants(made, 0)
        wants["g"] = 5
        right = (0, Share(3), (5,), (Share(3),), ((-1, "above", Share(3)),))
        self.check(True, check_levels, wants, Levels(*right))
        for at, wrong in ((0, 1), (0, -1), (1, Share(2)), (1, Share(-3)), (2, (4,)), (2, ()), (2, (5, 5)), (3, (Share(2),)), (3, ()), (3, (Share(3), Share(3))),
                          (4, ()), (4, ((0, "above", Share(3)),)), (4, ((-1, "below", Share(3)),)), (4, ((-1, "above", None),)), (4, ((-1, "above", Share(4)),)),
                          (4, ((-1, "above", Share(-3)),)), (4, ((-1, "all", None),)), (4, ((-1, "above", Share(3)),) * 2), (4, ((99, "above", Share(3)),))):
            self.check(False, check_levels, wants, Levels(*right[:at], wrong, *right[at + 1:]))
        # Another amount may have its own levels.
        self.check(True, check_levels, wants, Levels(0, Share(7), (5,), (Share(5),), ((-1, "all", None),)))
        self.check(True, check_levels, wants, Levels(0, Share(5), (5,), (Share(5),), ((-1, "all", None),)))
        self.check(False, check_levels, wants, Levels(0, Share(5), (5,), (Share(5),), ((-1, "above", Share(5)),)))
        self.check(True, check_levels, wants, Levels(0, Share(0), (5,), (Share(0),), ((-1, "above", Share(0)),)))
        wants["g"] = 4
        self.check(False, check_levels, wants, Levels(*right))

    def test_a_level_that_is_not_the_least(self):
        # With the floor 5 each level up to 5 gives the same share.
        made = cluster([(9,)], [(stages(1, 1), ())])
        rows = made.entries()
        wants = Wants(type(made)(rows[0], rows[1], [("g", "", 1, (5,), None)], rows[3]), 0)
        wants["g"] = 7
        self.check(True, check_levels, wants, Levels(0, Share(5), (7,), (Share(5),), ((-1, "above", Share(0)),)))
        for level in (Share(1), Share(5), Share(1, 2)):
            self.check(False, check_levels, wants, Levels(0, Share(5), (7,), (Share(5),), ((-1, "above", level),)))
        self.check(True, check_levels, wants, Levels(0, Share(6), (7,), (Share(6),), ((-1, "above", Share(6)),)))
        self.check(True, check_levels, wants, Levels(0, Share(4), (7,), (Share(4),), ((-1, "below", Share(4)),)))

    def test_a_level_between_a_floor_and_a_want(self):
        # The group h wants one core only, and the floor of g is 5: each level from 1 to 5 gives them 6 cores together.
        made = cluster([(9,)], [(stages(1, 1), ())])
        rows = made.entries()
        wants = Wants(type(made)(rows[0], rows[1], [("g", "", 1, (5,), None), ("h", "", 1, (0,), None)], rows[3]), 0)
        wants["g"], wants["h"] = 9, 1
        levels = fair(wants, 6)
        self.assertEqual(levels.note(), ("levels", 0, (6, 1), (9, 1), ((5, 1), (1, 1)), ((-1, "above", (1, 1)),)))
        for level, right in ((Share(1), True), (Share(2), False), (Share(5), False), (Share(1, 2), False), (Share(0), False), (Share(6), False), (Share(-1), False)):
            self.check(right, check_levels, wants, Levels(0, Share(6), (9, 1), (Share(5), Share(1)), ((-1, "above", level),)))
        half = Levels(0, Share(11, 2), (9, 1), (Share(5), Share(1, 2)), ((-1, "above", Share(1, 2)),))
        self.check(True, check_levels, wants, half)

    def test_others(self):
        made = cluster([(9,)], [(stages(1, 1), ())])
        self.check_others(Levels, check_levels, Wants(made, 0))
        for resource in (0, 1):
            self.check_others(Levels, check_levels, Wants(random_cluster(random.Random(1 + resource)), 0))


def floored(floor, machines, templates):
    """A cluster whose only group has this floor."""
    made = cluster(machines, templates)
    rows = made.entries()
    return type(made)(rows[0], rows[1], [("g", "", 1, floor, None)], rows[3])


class FloorsTest(CheckTest):
    PLAN = floored((3,), [(2,), (2,)], [(stages(1, 1), ()), (stages(1, 2), ())])
    CROWD = floored((4,), [(2,), (2,)], [(stages(1, 3), ()), (stages(1, 1), ())])

    def test_what_floors_hold_returns(self):
        plan = floors_hold(self.PLAN)
        self.assertIs(type(plan), FloorPlan)
        self.check(True, check_floors, self.PLAN, plan)
        crowded = floors_hold(self.CROWD)
        self.assertIs(type(crowded), Crowded)
        self.check(True, check_floors, self.CROWD, crowded)
        self.check(False, check_floors, self.CROWD, plan)
        self.check(False, check_floors, self.PLAN, crowded)

    def test_other_packings(self):
        plan = floors_hold(self.PLAN)
        self.assertEqual(plan.rows, (((1, 1), ((0, 1), (2 // 2, 0))), ((3, 0), ((0, 1), (0, 1), (1, 0)))))
        first, second = plan.rows
        self.check(True, check_floors, self.PLAN, FloorPlan((((1, 1), ((1, 0), (0, 1))), second)))
        self.check(True, check_floors, self.PLAN, FloorPlan((first, ((3, 0), ((1, 0), (0, 1), (0, 1))))))
        for rows in ((), (first,), (second,), (second, first), (first, first, second), (first, second, second), (((1, 1), ()), second), (first, ((3, 0), second[1][:2])),
                     (first, ((3, 0), ((1, 0), (1, 0), (1, 0)))), (first, second, ((0, 0), ())), (((1, 1), ((0, 1), (0, 1))), second), (((1,), ()), second)):
            self.check(False, check_floors, self.PLAN, FloorPlan(rows))

    def test_a_lot_with_more_gangs(self):
        crowded = floors_hold(self.CROWD)
        self.assertEqual(crowded.lot, (1, 0))
        empty = Takes(self.CROWD, [])
        more = pack(empty, [item(0), item(1)])
        self.check(True, check_floors, self.CROWD, Crowded((1, 1), more.node))
        for lot in ((0, 1), (0, 0), (2, 0), (1, 2), (1, -1), (1,), (1, 0, 0), ()):
            self.check(False, check_floors, self.CROWD, Crowded(lot, crowded.node))
        self.check(False, check_floors, self.CROWD, Crowded((1, 0), ("cases", ((1, 0), more.node))))
        # The lot (2, 0) could not be packed either, but it is not within the floors.
        self.check(False, check_floors, self.CROWD, Crowded((2, 0), pack(empty, [item(0), item(0)]).node))

    def test_too_many_lots(self):
        wide = floored((2000,), [(3000,)], [(stages(1, 1), ())])
        self.check(False, check_floors, wide, FloorPlan((((2000,), ((1,),) * 2000),)))
        self.check(False, check_floors, wide, Crowded((1,), ("short", ((0, 0),))))
        # 1000 lots are not too many.
        edge = floored((999,), [(999,)], [(stages(1, 1), ())])
        self.check(True, check_floors, edge, FloorPlan((((999,), ((1,),) * 999),)))

    def test_many_gangs_in_a_tree(self):
        # Each gang but the last one has one case: the tree is deeper than calls may be nested.
        made = floored((1000,), [(999,), (1,)], [(stages(1, 2), ())])
        found = floors_hold(made)
        self.assertEqual((type(found), found.lot), (Crowded, (500,)))
        self.assertIs(check_floors(made, found), True)
        self.assertIs(check_floors(made, Crowded((499,), found.node)), False)
        self.assertIs(check_floors(made, Crowded((500,), found.node[1][1])), False)

    def test_others(self):
        for made in (self.PLAN, self.CROWD):
            self.check_others((FloorPlan, Crowded), check_floors, made)

    def test_random_changes(self):
        dice = random.Random(4)
        counts = {True: 0, False: 0}
        while min(counts.values()) < 12:
            made = random_cluster(dice)
            try:
                found = floors_hold(made)
            except TooWide:
                continue
            counts[found.holds()] += 1
            if len(certificate_text(found)) < 3000:
                self.check(True, check_floors, made, found)
                self.check_altered(found, check_floors, (made,), lambda one: self.right(made, one), dice, 25)

    def right(self, made, found):
        empty = Takes(made, [])
        lot = found.lot if isinstance(found, Crowded) else None
        if lot is None:
            return [row[0] for row in found.rows] == list(full_lots(made)) and all(
                right_packing(empty, self.items(row[0]), row[1]) for row in found.rows)
        if len(lot) != len(made.templates) or min(lot) < 0 or not any(all(one <= most for one, most in zip(lot, full)) for full in full_lots(made)):
            return False
        return right_tree(empty, self.items(lot), found.node)

    def items(self, lot):
        return [item(at) for at, many in enumerate(lot) for _ in range(many)]


class SettlementTest(CheckTest):
    MADE = cluster([(2,), (1,)], [(stages(1, 1), ()), (((1, (2,), 3),), ()), (((2, (2,), 1),), ())])

    def test_what_settle_returns(self):
        dice = random.Random(5)
        tried = 0
        for _ in range(30):
            for _, _, now, _ in random_book(dice, 9, ROUGH):
                raw = State(now.cluster, dice.choice(POLICIES), now.hour, now.down, now.shut, now.windows, now.jobs)
                found = settle(raw)
                self.check(True, check_settlement, raw, found)
                self.check_altered(found, check_settlement, (raw,), lambda one: False, dice, 15)
                tried += len(found.rows)
        self.assertGreater(tried, 100)

    def test_what_comes_after_is_not_looked_at(self):
        now = state(self.MADE, FREE, [job("a"), job("b", 1)])
        found = settle(now)
        self.check(True, check_settlement, now, Settlement(found.rows, found.deeds, found.hold, None))
        self.check(True, check_settlement, now, Settlement(found.rows, found.deeds, found.hold, now))
        self.check(False, check_settlement, found.after, found)
        self.check(True, check_settlement, found.after, settle(found.after))

    def test_each_part(self):
        now = state(self.MADE, "age first never hold", [job("a", 1, (1, 0)), job("b", 1), job("c")])
        found = settle(now)
        self.assertEqual(found.hold, ("b", 3, (1, 0)))
        rows, deeds = found.rows, found.deeds
        for wrong in ((rows[1:], deeds, found.hold), ((rows[1], rows[0], *rows[2:]), deeds, found.hold), (rows + rows[:1], deeds, found.hold), (rows, (), found.hold),
                      (rows, deeds * 2, found.hold), (rows, deeds, None), (rows, deeds, ("b", 4, (1, 0))), (rows, deeds, ("c", 3, (1, 0))), (rows, deeds, ("b", 3, (0, 1))),
                      (rows, deeds, ("b", 3, ()))):
            self.check(False, check_settlement, now, Settlement(*wrong, found.after))

    def test_others(self):
        self.check_others(Settlement, check_settlement, state(self.MADE, FREE, [job("a")]))
        self.check_others(Settlement, check_settlement, state(self.MADE, FREE))
        self.assertIs(check_settlement(state(self.MADE, FREE), read_certificate("(settled () () -)")), True)


def right_quote(now, found):
    """Tell by the words of point 77 whether a Quote or a NoQuote is right."""
    templates = now.cluster.templates
    if not 0 <= found.template < len(templates):
        return False
    takes, closed = now.takes(), (*now.down, *now.shut)
    starts = [0, *itertools.accumulate(stage.hours for stage in templates[found.template].stages)]
    hours = [row[0] for row in found.refusals]
    if hours and (hours[0] < now.hour or hours != list(range(hours[0], hours[0] + len(hours)))):
        return False
    for hour, stage, rows in found.refusals:
        spans = [Span(hour + one, hour + two) for one, two in zip(starts, starts[1:])]
        without = [at for at, span in enumerate(spans) if not list(placings(takes, (found.template, at), span, closed))]
        if without[:1] != [stage] or rows != tuple(bounds(takes, (found.template, stage), spans[stage], closed)):
            return False
    if isinstance(found, NoQuote):
        return len(hours) > 0 and hours[-1] >= max([0, *takes.ends()])
    if found.hour < now.hour or (hours and found.hour != hours[-1] + 1) or len(found.places) != len(starts) - 1:
        return False
    return all(counts in list(placings(takes, (found.template, at), Span(found.hour + starts[at], found.hour + starts[at + 1]), closed))
               for at, counts in enumerate(found.places))


class QuoteTest(CheckTest):
    MADE = cluster([(2,), (1,)], [(((1, (2,), 2), (2, (1,), 1)), ()), (((1, (3,), 1),), ()), (((3, (1,), 1),), ("needs:x",))])

    def busy(self, **more):
        return state(self.MADE, FREE, [job("a", 0, (1, 0), began=3)], hour=3, **more)

    def test_what_earliest_returns(self):
        now = self.busy()
        quote = earliest(now, "a", 3)
        self.assertEqual((type(quote), quote.hour, len(quote.refusals)), (Quote, 5, 2))
        self.check(True, check_quote, now, quote)
        for template in ("b", "c"):
            never = earliest(now, template, 3)
            self.assertIs(type(never), NoQuote)
            self.check(True, check_quote, now, never)
        self.check(True, check_quote, now, earliest(now, "a", 50))
        self.check(True, check_quote, now, earliest(now, "b", 50))

    def test_quotes(self):
        now = self.busy()
        quote = earliest(now, "a", 3)
        template, hour, places, refusals = quote.note()[1:]
        right = ((template, 5, places, ()), (template, 5, places, refusals[1:]), (template, 9, places, ()), (template, 100000, places, ()),
                 (template, 5, ((1, 0), (2, 0)), refusals), (template, 5, ((1, 0), (1, 1)), refusals), (template, 10 ** 40, places, ()))
        for items in right:
            self.check(True, check_quote, now, Quote(*items))
        wrong = ((template, 4, places, refusals[:1]), (template, 3, places, ()), (template, 6, places, refusals), (template, 5, places, refusals[:1]),
                 (template, 5, places, refusals[::-1]), (template, 5, places, (refusals[0], refusals[0], refusals[1])), (template, 2, places, ()),
                 (template, 5, places[:1], refusals), (template, 5, (*places, (1, 0)), refusals), (template, 5, (), refusals), (template, 5, ((0, 1), places[1]), refusals),
                 (template, 5, ((1, 0), (1, 0)), refusals), (template, 5, ((1, 0), (3, -1)), refusals), (template, 5, ((1, 0), (0, 2)), refusals),
                 (1, 5, places, refusals), (2, 5, places, refusals), (3, 5, places, ()), (-1, 5, places, ()), (-3, 5, places, refusals))
        for items in wrong:
            self.check(False, check_quote, now, Quote(*items))

    def test_refusals(self):
        now = self.busy()
        hour, stage, rows = earliest(now, "a", 3).refusals[1]
        places = earliest(now, "a", 3).places
        for refusal in ((hour, 1, rows), (hour, -1, rows), (hour, 2, rows), (hour, 0, rows[:1]), (hour, 0, ((0, 0), (1, 0))), (hour, 0, ()), (hour - 5, 0, rows), (hour + 1, 0, rows)):
            self.check(False, check_quote, now, Quote(0, refusal[0] + 1, places, (refusal,)))
        self.check(True, check_quote, now, Quote(0, hour + 1, places, ((hour, stage, rows),)))
        # Refusals do not begin before the present hour.
        later = state(self.MADE, FREE, [job("a", 0, (1, 0), began=3)], hour=4)
        self.check(False, check_quote, later, earliest(now, "a", 3))

    def test_no_quotes(self):
        now = self.busy()
        never = earliest(now, "b", 3)
        self.assertEqual([row[0] for row in never.refusals], [3, 4, 5])
        more = (*never.refusals, (6, *never.refusals[-1][1:]))
        self.check(True, check_quote, now, NoQuote(1, more))
        self.check(True, check_quote, now, NoQuote(1, never.refusals[1:]))
        self.check(True, check_quote, now, NoQuote(1, never.refusals[2:]))
        self.check(True, check_quote, now, NoQuote(1, ((10 ** 50, *never.refusals[2][1:]),)))
        for template, refusals in ((1, ()), (1, never.refusals[:2]), (1, never.refusals[::-1]), (1, (never.refusals[0], never.refusals[2])), (1, never.refusals * 2),
                                   (0, never.refusals), (2, never.refusals), (3, never.refusals), (-2, never.refusals), (0, earliest(now, "a", 3).refusals)):
            self.check(False, check_quote, now, NoQuote(template, refusals))

    def test_barred_machines(self):
        for closed in ({"down": (0,)}, {"shut": (0,)}):
            now = state(self.MADE, FREE, **closed)
            self.check(True, check_quote, now, earliest(now, "a", 0))
            self.check(False, check_quote, now, earliest(state(self.MADE, FREE), "a", 0))
            self.check(False, check_quote, state(self.MADE, FREE), earliest(now, "a", 0))

    def test_others(self):
        self.check_others((Quote, NoQuote), check_quote, self.busy())

    def test_random_changes(self):
        dice = random.Random(6)
        counts = {True: 0, False: 0}
        while min(counts.values()) < 25:
            now = last_state(dice, 8, ROUGH)
            found = earliest(now, dice.choice(now.cluster.templates).name, now.hour + dice.randrange(3))
            counts[found.holds()] += 1
            self.check(True, check_quote, now, found)
            self.assertTrue(right_quote(now, found))
            self.check_altered(found, check_quote, (now,), lambda one: right_quote(now, one), dice, 40)


class BlockersTest(CheckTest):
    MADE = cluster([(2,)], [(((1, (2,), 2),), ()), (((1, (1,), 2),), ()), (((1, (3,), 1),), ())])

    def planned(self):
        return state(self.MADE, FREE, [job("r", 0, None, firm=True, plan=((0, 2, (1,)),)), job("s", 1, None, firm=True, plan=((0, 4, (1,)),)),
                                       job("t", 1, None, firm=True, plan=((0, 4, (1,)),))])

    def test_what_in_the_way_returns(self):
        now = self.planned()
        for template, hour, names in (("a", 2, ["r"]), ("b", 3, ["r", "t"]), ("b", 4, ["t"]), ("a", 3, ["r", "s", "t"]), ("a", 6, []), ("a", 200, []), ("b", 0, [])):
            found = in_the_way(now, template, hour)
            self.assertEqual([row[0] for row in found.rows], names)
            self.check(True, check_blockers, now, found)

    def test_each_part(self):
        now = self.planned()
        found = in_the_way(now, "a", 3)
        self.check(True, check_blockers, now, found)
        template, hour, rows = found.template, found.hour, found.rows
        for wrong in ((template, hour, rows[1:]), (template, hour, rows[:2]), (template, hour, ()), (template, hour, rows[::-1]), (template, hour, rows + rows[:1]),
                      (1, hour, rows), (2, hour, rows), (3, hour, ()), (-3, hour, rows), (template, 2, rows), (template, 4, rows), (template, -1, rows), (template, 201, ()),
                      (template, 10 ** 9, ()), (template, hour, (("x", *rows[0][1:]), *rows[1:])), (template, hour, ((rows[0][0], 1, rows[0][2]), *rows[1:])),
                      (template, hour, ((*rows[0][:2], ()), *rows[1:]))):
            self.check(False, check_blockers, now, Blockers(*wrong))
        self.check(True, check_blockers, now, Blockers(template, 200, ()))

    def test_where_there_is_a_shortage(self):
        now = self.planned()
        self.assertIs(type(in_the_way(now, "c", 4)), Shortage)
        self.check(False, check_blockers, now, Blockers(2, 4, ()))
        self.check(False, check_blockers, now, Blockers(2, 4, (("r", 0, ((0, 0),)),)))
        running = state(self.MADE, FREE, [job("j", 0, (1,))])
        self.check(False, check_blockers, running, Blockers(0, 1, ()))
        self.check(True, check_blockers, running, Blockers(0, 2, ()))

    def test_hours(self):
        now = state(self.MADE, FREE, hour=7)
        for hour, right in ((6, False), (7, True), (207, True), (208, False), (-1, False), (0, False)):
            self.check(right, check_blockers, now, Blockers(0, hour, ()))

    def test_others(self):
        self.check_others(Blockers, check_blockers, self.planned())

    def test_random_changes(self):
        dice = random.Random(7)
        tried = 0
        while tried < 25:
            now = last_state(dice, 9, CALM)
            found = in_the_way(now, dice.choice(now.cluster.templates).name, now.hour + dice.randrange(5))
            if isinstance(found, Blockers):
                tried += 1 if found.rows else 0
                self.check(True, check_blockers, now, found)
                self.check_altered(found, check_blockers, (now,), lambda one: self.right(now, one), dice, 20)

    def right(self, now, found):
        try:
            name = now.cluster.templates[found.template].name if found.template >= 0 else "-"
            return in_the_way(now, name, found.hour).note() == found.note()
        except (GangError, IndexError):
            return False


def right_moves(now, found):
    """Tell by the words of point 77 whether a MovePlan or a Stuck is right."""
    if not 0 <= found.machine < len(now.cluster.machines):
        return False
    running = [one for one in now if one.place is not None]
    if isinstance(found, MovePlan):
        for name, counts in found.moves:
            if name not in [one.name for one in running] or not is_row(now.cluster, (now[name].template, now[name].stage), counts):
                return False
            if not allowed(now, name, counts, (found.machine,)):
                return False
            now = moved(now, name, counts, (found.machine,))
        return all(one.place is None or one.place[found.machine] == 0 for one in now)
    for places in found.places:
        if len(places) != len(running) or not all(is_row(now.cluster, (one.template, one.stage), counts) for one, counts in zip(running, places)):
            return False
    if list(found.places) != sorted(set(found.places)) or tuple(one.place for one in running) not in found.places:
        return False
    for places in found.places:
        there = replaced(now, dict(zip([one.name for one in running], places)))
        if all(counts[found.machine] == 0 for counts in places):
            return False
        for at, one in enumerate(running):
            for counts in rows_of_counts(len(now.cluster.machines), sum(one.place)):
                if allowed(there, one.name, counts, (found.machine,)) and places[:at] + (counts,) + places[at + 1:] not in found.places:
                    return False
    return True


def replaced(now, places):
    """The state with other places for some jobs."""
    jobs = [job(one.name, one.template, places.get(one.name, one.place), stage=one.stage, done=one.done, firm=one.firm, plan=one.plan, began=one.began) for one in now]
    return State(now.cluster, now.policy, now.hour, now.down, now.shut, now.windows, jobs)


class MovesTest(CheckTest):
    MADE = cluster([(2,), (2,), (1,)], [(stages(1, 1), ()), (stages(2, 1), ()), (stages(1, 2), ())])

    def test_what_move_plan_returns(self):
        now = state(self.MADE, FREE, [job("a", 0, (1, 0, 0)), job("b", 2, (0, 1, 0))])
        plan = move_plan(now, "m1")
        self.assertEqual(plan.moves, (("a", (0, 0, 1)),))
        self.check(True, check_moves, now, plan)
        self.assertEqual(len(move_plan(now, "m2").moves), 2)
        self.check(True, check_moves, now, move_plan(now, "m2"))
        self.check(True, check_moves, now, move_plan(now, "m3"))
        full = state(self.MADE, FREE, [job("a", 2, (1, 0, 0)), job("b", 0, (0, 1, 0)), job("c", 0, (0, 1, 0))])
        stuck = move_plan(full, "m1")
        self.assertEqual((type(stuck), len(stuck.places)), (Stuck, 3))
        self.check(True, check_moves, full, stuck)
        one, two, three = stuck.places
        for places in ((two, one, three), (one, three, two), (three, two, one), (one, two, three, three), (one, two), (one, three), (two, three), (one,)):
            self.check(False, check_moves, full, Stuck(0, places))

    def test_other_lists_of_moves(self):
        now = state(self.MADE, FREE, [job("a", 0, (1, 0, 0)), job("b", 0, (0, 1, 0)), job("c", 0)])
        one, other = ("a", (0, 0, 1)), ("a", (0, 1, 0))
        for moves, right in (((one,), True), ((other,), True), ((one, other), True), ((other, one, other), True), ((("b", (0, 0, 1)), other), True),
                             ((), False), ((one, one), False), ((("b", (0, 0, 1)), one), False), ((("b", (1, 0, 0)), one), False), ((("a", (1, 0, 0)),), False),
                             ((one, ("b", (0, 1, 0))), False), ((("c", (0, 0, 1)), one), False), ((("d", (0, 0, 1)), one), False), ((("a", (0, 1)),), False),
                             ((("a", (0, 1, 0, 0)),), False), ((("a", ()),), False), ((("a", (0, 2, -1)),), False), ((("a", (0, 1, 1)),), False), ((("a", (0, 0, 0)),), False),
                             ((("b", (0, 0, 1)),), False)):
            self.check(right, check_moves, now, MovePlan(0, moves))

    def test_machines(self):
        now = state(self.MADE, FREE, [job("a", 0, (1, 0, 0))])
        self.check(True, check_moves, now, MovePlan(1, ()))
        self.check(True, check_moves, now, MovePlan(2, ()))
        for machine in (0, 3, 99, -1, -2, -3):
            self.check(False, check_moves, now, MovePlan(machine, ()))
            self.check(False, check_moves, now, Stuck(machine, (((1, 0, 0),),)))
        # The machine is barred: no move leads back to it, nor between two others through it.
        self.check(False, check_moves, now, MovePlan(1, (("a", (0, 1, 0)), ("a", (0, 0, 1)))))

    def test_stuck(self):
        now = state(self.MADE, FREE, [job("a", 2, (1, 0, 0)), job("b", 2, (0, 1, 0)), job("c", 0)])
        right = ((1, 0, 0), (0, 1, 0))
        self.check(True, check_moves, now, Stuck(0, (right,)))
        # A tuple that is none of places makes it wrong, too, also beside the right ones.
        for more in ((), right[:1], (*right, (0, 0, 1)), ((1, 0, 0), (0, 2, 0)), ((1, 0, 0), (0, 0, 0)), ((1, 0, 0), (0, 1)), ((1, 0, 0), (0, 1, 0, 0)), ((1, 0, 0), (0, 2, -1)),
                     ((2, 0, 0), (0, 1, 0)), ((1, 0, 0), ()), ((), (0, 1, 0)), ((1, 1, -1), (0, 1, 0))):
            self.check(False, check_moves, now, Stuck(0, tuple(sorted([right, more]))))
        for places in ((), ((),), (((1, 0, 0),),), (((1, 0, 0), (0, 1, 0), (0, 0, 1)),), (((0, 1, 0), (1, 0, 0)),), (((1, 0, 0), (0, 1, 0)),) * 2,
                       (((1, 0), (0, 1)),), (((1, 0, 0), (0, 2, -1)),), (((2, 0, 0), (0, 1, 0)),), (((1, 0, 0), (0, 0, 1)), ((1, 0, 0), (0, 1, 0)))):
            self.check(False, check_moves, now, Stuck(0, places))

    def test_further_tuples(self):
        made = cluster([(2,), (2,)], [(stages(1, 2), ()), (stages(1, 1), ("needs:x",))], labels=[("x",), ()])
        now = state(made, FREE, [job("a", 1, (1, 0))])
        self.check(True, check_moves, now, Stuck(0, (((1, 0),),)))
        self.check(False, check_moves, now, Stuck(0, (((0, 1),), ((1, 0),))))
        wide = cluster([(2,), (1,), (1,)], [(stages(1, 2), ()), (stages(1, 1), ("needs:x",))], labels=[("x",), ("x",), ()])
        now = state(wide, FREE, [job("a", 0, (1, 0, 0)), job("b", 1, (0, 1, 0))])
        self.check(True, check_moves, now, Stuck(0, (((1, 0, 0), (0, 1, 0)),)))
        # From the second tuple b could move to the first one, which is told.
        self.check(True, check_moves, now, Stuck(0, (((1, 0, 0), (0, 0, 1)), ((1, 0, 0), (0, 1, 0)))))
        self.check(False, check_moves, now, Stuck(0, (((1, 0, 0), (0, 0, 1)),)))

    def test_nothing_runs(self):
        now = state(self.MADE, FREE, [job("a", 0)])
        self.check(True, check_moves, now, MovePlan(0, ()))
        self.check(False, check_moves, now, Stuck(0, ((),)))
        self.check(False, check_moves, now, Stuck(0, ()))

    def test_others(self):
        self.check_others((MovePlan, Stuck), check_moves, state(self.MADE, FREE, [job("a", 0, (1, 0, 0))]))
        self.check_others((MovePlan, Stuck), check_moves, state(self.MADE, FREE))

    def test_random_changes(self):
        dice = random.Random(8)
        counts = {True: 0, False: 0}
        while min(counts.values()) < 20:
            now = last_state(dice, 9, ROUGH)
            try:
                found = move_plan(now, dice.choice(now.cluster.machines).name)
            except TooWide:
                continue
            if not any(one.place for one in now) or len(certificate_text(found)) > 2000 or counts[found.holds()] > 40:
                continue
            counts[found.holds()] += 1
            self.check(True, check_moves, now, found)
            self.check_altered(found, check_moves, (now,), lambda one: right_moves(now, one), dice, 25)


def right_survival(now, failures, found):
    """Tell by the words of point 77 whether a Survival or a Frail is right."""
    up = [at for at in range(len(now.cluster.machines)) if at not in now.down]
    if isinstance(found, Survival):
        sets = [row for size in range(1, min(failures, len(up)) + 1) for row in itertools.combinations(up, size)]
        return [row[0] for row in found.rows] == sets and all(
            right_packing(*packed(now, row[0]), row[1], (*now.down, *row[0]), now.shut) for row in found.rows)
    if len(found.machines) > failures or list(found.machines) != sorted(set(found.machines)) or not set(found.machines) <= set(up):
        return False
    return right_tree(*packed(now, found.machines), found.node, (*now.down, *found.machines), now.shut)


def packed(now, machines):
    """The takes and the items of the plans that are left if some machines fail."""
    left = [one for one in now if one.firm and not (one.place and any(one.place[at] for at in machines))]
    rows = [(machine, max(now.hour, start), end, now.cluster.machines[machine].amounts.numbers, -1) for machine, start, end in now.windows]
    for one in left:
        if one.place:
            rows += takes_of(now.cluster, (one.template, one.stage), Span(now.hour, now.hour + now.left(one.name)), one.place)
    items = [((one.template, stage), Span(start, start + now.cluster.stage_of((one.template, stage)).hours), counts)
             for one in left for stage, start, counts in one.plan]
    return Takes(now.cluster, rows), items


class SurvivalTest(CheckTest):
    MADE = cluster([(1,), (1,), (1,)], [(stages(1, 1), ()), (stages(2, 1), ("apart",))])

    def planned(self, **more):
        return state(self.MADE, FREE, [job("r", 0, None, firm=True, plan=((0, 2, (1, 0, 0)),)), job("s", 0, None, firm=True, plan=((0, 2, (0, 1, 0)),))], **more)

    def test_what_survives_returns(self):
        now = self.planned()
        for failures, holds in ((0, True), (1, True), (2, False), (3, False), (9, False)):
            found = survives(now, failures)
            self.assertIs(found.holds(), holds)
            self.check(True, check_survival, now, failures, found)

    def test_other_places(self):
        now = self.planned()
        rows = survives(now, 1).rows
        self.assertEqual(rows, (((0,), ((0, 0, 1), (0, 1, 0))), ((1,), ((1, 0, 0), (0, 0, 1))), ((2,), ((1, 0, 0), (0, 1, 0)))))
        self.check(True, check_survival, now, 1, Survival((rows[0], rows[1], ((2,), ((0, 1, 0), (1, 0, 0))))))
        for wrong in ((), rows[:2], rows[1:], rows[::-1], rows + rows[:1], (((1, 0), rows[0][1]), *rows[1:]), ((*rows[:2], ((2,), ((1, 0, 0), (1, 0, 0))))),
                      (*rows[:2], ((2,), ((1, 0, 0), (0, 0, 1)))), (*rows[:2], ((2,), ((1, 0, 0),))), (((), ()), *rows), (*rows[:2], ((99,), rows[2][1]))):
            self.check(False, check_survival, now, 1, Survival(wrong))
        self.check(False, check_survival, now, 2, Survival(rows))
        self.check(False, check_survival, now, 0, Survival(rows))
        self.check(True, check_survival, now, 0, Survival(()))

    def test_shut_machines(self):
        # The present place may stay on a machine that is shut; new places avoid it.
        now = self.planned(shut=(2,))
        self.check(False, check_survival, now, 1, Survival(survives(self.planned(), 1).rows))
        self.check(True, check_survival, now, 1, survives(now, 1))
        kept = self.planned(shut=(0,))
        found = survives(kept, 1)
        self.assertTrue(found.holds() is False or found.rows[1][1][0] == (1, 0, 0))
        self.check(True, check_survival, kept, 1, found)

    def test_frail(self):
        now = self.planned()
        found = survives(now, 2)
        self.assertEqual(found.machines, (0, 1))
        for machines in ((0, 2), (1, 2)):
            takes, items = packed(now, machines)
            node = pack(takes, items, barred=machines).node
            self.check(True, check_survival, now, 2, Frail(machines, node))
            self.check(True, check_survival, now, 3, Frail(machines, node))
            self.check(False, check_survival, now, 1, Frail(machines, node))
            self.check(False, check_survival, now, 2, Frail(machines[::-1], node))
        for machines in ((0,), (), (1, 0), (0, 0), (0, 1, 1), (0, 3), (-1, 0), (0, 99), (0, 2)):
            self.check(False, check_survival, now, 3, Frail(machines, found.node))
        for node in ((), ("short", ()), ("cases",), found.node[:1], (*found.node, 0)):
            self.check(False, check_survival, now, 2, Frail((0, 1), node))

    def test_machines_that_are_down(self):
        now = self.planned(down=(2,))
        found = survives(now, 1)
        self.assertEqual(found.machines, (0,))
        self.check(True, check_survival, now, 1, found)
        self.check(False, check_survival, now, 2, Frail((0, 2), found.node))
        self.check(False, check_survival, now, 1, Frail((2,), found.node))

    def test_others(self):
        self.check_others((Survival, Frail), check_survival, self.planned(), 1)
        self.check_others((Survival, Frail), check_survival, state(self.MADE, FREE), 0)

    def test_random_changes(self):
        dice = random.Random(9)
        counts = {True: 0, False: 0}
        while min(counts.values()) < 20:
            now = last_state(dice, 9, CALM + ("reserve",) * 6 + ("fail",))
            failures = dice.randrange(3)
            try:
                found = survives(now, failures)
            except TooWide:
                continue
            if not any(one.plan for one in now) or len(certificate_text(found)) > 2000 or counts[found.holds()] > 40:
                continue
            counts[found.holds()] += 1
            self.check(True, check_survival, now, failures, found)
            self.check_altered(found, check_survival, (now, failures), lambda one: right_survival(now, failures, one), dice, 25)


if __name__ == "__main__":
    unittest.main()
