"""Points 19 and 20: places of several gangs together."""

import copy
import random
import unittest

from gangbooks.errors import TooWide
from gangbooks.fitting import bounds, placings, stands, takes_of
from gangbooks.notes import Certificate, No, Yes, read_note, write_note
from gangbooks.packing import CaseTree, Packing, pack
from gangbooks.spans import Span
from gangbooks.takes import Takes
from tests.support import cluster, refuse

HOUR = Span(0, 1)


def stages(tasks, *amounts):
    return ((tasks, amounts, 1),)


def item(template, present=None, span=HOUR, stage=0):
    return ((template, stage), span, present)


def tried(takes, gang, span, present, barred, shut):
    """The rows that are possible for an item, in the order of the tries, by the words of point 19."""
    rows = list(placings(takes, gang, span, (*barred, *shut)))
    if present is not None and stands(takes, gang, span, present, barred):
        rows = [present] + [row for row in rows if row != present]
    return rows


def search(takes, items, barred, shut):
    """The places of the first packing, or the node that shows that there is none."""
    if not items:
        return True, ()
    gang, span, present = items[0]
    rows = tried(takes, gang, span, present, barred, shut)
    if not rows:
        return False, ("short", tuple(bounds(takes, gang, span, (*barred, *shut))))
    pairs = []
    for row in rows:
        found, rest = search(takes + takes_of(takes.cluster, gang, span, row), items[1:], barred, shut)
        if found:
            return True, (row, *rest)
        pairs.append((row, rest))
    return False, ("cases", *pairs)


class PackingTest(unittest.TestCase):
    def check(self, made, items, places, rows=(), **closed):
        found = pack(Takes(made, list(rows)), items, **closed)
        self.assertIs(type(found), Packing)
        self.assertEqual(found.places, places)
        self.assertIsInstance(found.places, tuple)

    def test_no_items(self):
        made = cluster([(1,)], [(stages(1, 1), ())])
        self.check(made, [], ())
        self.check(made, [], (), rows=[(0, 0, 9, (5,), 0)], barred=(0,), shut=(0,))

    def test_one_item_takes_the_first_row_in_ascending_order(self):
        made = cluster([(2,), (2,), (2,)], [(stages(2, 1), ("likes:a",))], labels=[("a",), (), ()])
        self.check(made, [item(0)], ((0, 0, 2),))

    def test_items_before_count(self):
        made = cluster([(2,), (1,)], [(stages(1, 1), ())])
        self.check(made, [item(0), item(0), item(0)], ((0, 1), (1, 0), (1, 0)))

    def test_takes_count(self):
        made = cluster([(2,), (1,)], [(stages(1, 1), ())])
        self.check(made, [item(0), item(0)], ((1, 0), (1, 0)), rows=[(1, 0, 1, (1,), -1)])

    def test_a_later_item_moves_an_earlier_one(self):
        # b runs on m2 alone, so a leaves it.
        made = cluster([(1,), (1,)], [(stages(1, 1), ()), (stages(1, 1), ("needs:x",))], labels=[(), ("x",)])
        self.check(made, [item(0)], ((0, 1),))
        self.check(made, [item(0), item(1)], ((1, 0), (0, 1)))
        self.check(made, [item(0, (0, 1)), item(1, (0, 1))], ((1, 0), (0, 1)))

    def test_spans(self):
        made = cluster([(1,)], [(stages(1, 1), ())])
        self.check(made, [item(0, span=Span(3, 5)), item(0, span=Span(0, 3)), item(0, span=Span(5, 6))], ((1,),) * 3)
        self.assertIsInstance(pack(Takes(made, []), [item(0, span=Span(3, 5)), item(0, span=Span(4, 6))]), CaseTree)

    def test_stages(self):
        made = cluster([(4,), (2,)], [(((1, (1,), 1), (2, (2,), 1)), ())])
        self.check(made, [item(0, stage=1), item(0)], ((1, 1), (1, 0)))

    def test_the_present_row_comes_first(self):
        made = cluster([(1,), (1,), (1,)], [(stages(1, 1), ())])
        self.check(made, [item(0, (1, 0, 0))], ((1, 0, 0),))
        self.check(made, [item(0, (0, 1, 0)), item(0)], ((0, 1, 0), (0, 0, 1)))
        self.check(made, [item(0), item(0, (0, 0, 1)), item(0, (0, 0, 1))], ((0, 0, 1), (0, 1, 0), (1, 0, 0)))

    def test_an_earlier_item_keeps_its_present_place_if_any_packing_lets_it(self):
        made = cluster([(2,), (2,)], [(stages(2, 1), ())])
        self.check(made, [item(0, (1, 1)), item(0, (2, 0))], ((1, 1), (1, 1)))
        self.check(made, [item(0, (2, 0)), item(0, (1, 1))], ((2, 0), (0, 2)))

    def test_a_present_row_that_does_not_stand(self):
        made = cluster([(1,), (1,)], [(stages(1, 1), ())])
        self.check(made, [item(0, (0, 1))], ((1, 0),), rows=[(1, 0, 1, (1,), -1)])
        self.check(made, [item(0, (0, 1))], ((1, 0),), barred=(1,))

    def test_barred_machines(self):
        made = cluster([(1,), (1,), (1,)], [(stages(1, 1), ())])
        self.check(made, [item(0)], ((0, 1, 0),), barred=(2,))
        self.check(made, [item(0, (0, 0, 1)), item(0)], ((0, 1, 0), (1, 0, 0)), barred=(2,))

    def test_shut_machines_are_open_for_the_present_row_alone(self):
        made = cluster([(2,), (2,), (2,)], [(stages(2, 1), ())])
        self.check(made, [item(0)], ((0, 2, 0),), shut=(2,))
        self.check(made, [item(0, (0, 0, 2)), item(0)], ((0, 0, 2), (0, 2, 0)), shut=(2,))
        self.check(made, [item(0, (0, 1, 1)), item(0)], ((0, 1, 1), (1, 1, 0)), shut=(2,))
        self.check(made, [item(0, (0, 1, 1))], ((0, 2, 0),), shut=(2,), rows=[(2, 0, 1, (2,), -1)])
        self.check(made, [item(0, (0, 0, 2))], ((0, 2, 0),), barred=(2,), shut=(2,))
        self.check(made, [item(0, (0, 0, 2)), item(0, (2, 0, 0))], ((0, 0, 2), (2, 0, 0)), shut=(0, 2, 1))

    def test_wishes(self):
        made = cluster([(2,), (2,)], [(stages(1, 1), ("never:b",)), (stages(1, 1), ())])
        self.check(made, [item(0), item(1), item(1), item(0)], ((0, 1), (1, 0), (1, 0), (0, 1)))

    def test_many_items(self):
        made = cluster([(999,)], [(stages(1, 1), ())])
        self.check(made, [item(0)] * 600, ((1,),) * 600)


class TreeTest(unittest.TestCase):
    def check(self, made, items, node, rows=(), **closed):
        found = pack(Takes(made, list(rows)), items, **closed)
        self.assertIs(type(found), CaseTree)
        self.assertEqual(found.node, node)

    def test_an_item_without_a_possible_row(self):
        made = cluster([(1, 9), (1, 9)], [(stages(3, 1, 1), ())])
        self.check(made, [item(0)], ("short", ((1, 0), (1, 0))))
        self.check(made, [item(0)], ("short", ((0, "barred"), (1, 0))), barred=(0,))
        self.check(made, [item(0)], ("short", ((0, "barred"), (0, "barred"))), barred=(0,), shut=(1,))
        self.check(made, [item(0, (2, 1))], ("short", ((1, 0), (0, "barred"))), shut=(1,))

    def test_cases(self):
        made = cluster([(1,), (2,)], [(stages(1, 1), ()), (stages(1, 2), ())])
        short = ("short", ((0, 0), (0, 0)))
        self.check(made, [item(1), item(0), item(1)], ("cases", ((0, 1), ("cases", ((1, 0), short)))))
        self.check(made, [item(0, (1, 0)), item(1), item(0)],
                   ("cases", ((1, 0), ("cases", ((0, 1), short))), ((0, 1), short)))
        self.check(made, [item(0), item(0), item(1)],
                   ("cases", ((0, 1), ("cases", ((0, 1), short), ((1, 0), short))), ((1, 0), ("cases", ((0, 1), short)))))

    def test_the_tree_ends_at_the_first_item_without_a_possible_row(self):
        made = cluster([(1,)], [(stages(1, 1), ())])
        self.check(made, [item(0)] * 5, ("cases", ((1,), ("short", ((0, 0),)))))

    def test_the_present_row_is_the_first_case(self):
        made = cluster([(1,), (1,)], [(stages(1, 1), ()), (stages(2, 1), ())])
        left, right = ("short", ((0, 0), (1, 0))), ("short", ((1, 0), (0, 0)))
        self.check(made, [item(0), item(1)], ("cases", ((0, 1), right), ((1, 0), left)))
        self.check(made, [item(0, (1, 0)), item(1)], ("cases", ((1, 0), left), ((0, 1), right)))
        left, right = ("short", ((0, "barred"), (1, 0))), ("short", ((0, "barred"), (0, 0)))
        self.check(made, [item(0, (1, 0)), item(1)], ("cases", ((1, 0), left), ((0, 1), right)), shut=(0,))

    def test_many_items(self):
        made = cluster([(400,)], [(stages(1, 1), ())])
        found = pack(Takes(made, []), [item(0)] * 401)
        node = found.node
        for _ in range(400):
            self.assertEqual((node[0], len(node), node[1][0]), ("cases", 2, (1,)))
            node = node[1][1]
        self.assertEqual(node, ("short", ((0, 0),)))


class SearchTest(unittest.TestCase):
    def test_against_a_search_by_the_words(self):
        source = random.Random(11)
        met = {Packing: 0, CaseTree: 0}
        for _ in range(500):
            many = source.randint(1, 3)
            made = cluster([(source.randint(1, 3),) for _ in range(many)], [
                (stages(source.randint(1, 3), source.randint(1, 2)),
                 tuple(source.sample(("near", "apart", "never:b", "never:a", "needs:x"), source.choice((0, 0, 1, 2)))))
                for _ in range(3)],
                zones=[source.choice("xy") for _ in range(many)], labels=[source.choice([(), ("x",)]) for _ in range(many)])
            takes = Takes(made, [(source.randrange(many), 0, source.randint(1, 3), (source.randint(0, 1),), source.randint(-1, 2))
                                 for _ in range(source.randint(0, 2))])
            items = []
            for _ in range(source.randint(0, 4)):
                template, start = source.randrange(3), source.randint(0, 2)
                rows = [row for row in placings(Takes(cluster([(9,)] * many, [(stages(made.stage_of((template, 0)).tasks, 1), ())]), []),
                                                (0, 0), HOUR)]
                items.append(item(template, source.choice([None, source.choice(rows)]), Span(start, source.randint(start + 1, 4))))
            barred = tuple(source.sample(range(many), source.choice((0, 0, 1))))
            shut = tuple(source.sample(range(many), source.choice((0, 0, 1))))
            width = 1
            for gang, span, present in items:
                width *= max(1, len(tried(takes, gang, span, present, barred, shut)))
            if width > 4096:
                continue
            found = pack(takes, items, barred=barred, shut=shut)
            holds, wanted = search(takes, items, barred, shut)
            self.assertEqual(found.holds(), holds)
            self.assertEqual(found.places if holds else found.node, wanted)
            met[type(found)] += 1
        self.assertGreater(min(met.values()), 100)


class WidthTest(unittest.TestCase):
    def test_4096_and_more(self):
        made = cluster([(99,), (99,)], [(stages(1, 1), ()), (stages(3, 1), ()), (stages(2, 1), ())])
        takes = Takes(made, [])
        self.assertEqual(len(pack(takes, [item(0)] * 12).places), 12)
        self.assertEqual(len(pack(takes, [item(1)] * 6).places), 6)
        refuse(self, TooWide, 4096, pack, takes, [item(0)] * 13)
        refuse(self, TooWide, 4096, pack, takes, [item(1)] * 6 + [item(0)])
        # 3 ** 7 is 2187, and twice that is more than 4096.
        self.assertEqual(len(pack(takes, [item(2)] * 7).places), 7)
        refuse(self, TooWide, 4096, pack, takes, [item(2)] * 7 + [item(0)])
        refuse(self, TooWide, 4096, pack, takes, [item(0)] + [item(2)] * 7)

    def test_a_number_0_counts_as_1(self):
        made = cluster([(9,), (9,)], [(stages(1, 1), ()), (stages(1, 10), ())])
        takes = Takes(made, [])
        refuse(self, TooWide, 4096, pack, takes, [item(1)] + [item(0)] * 13)
        refuse(self, TooWide, 4096, pack, takes, [item(0)] * 13 + [item(1)])
        self.assertEqual(pack(takes, [item(1)] + [item(0)] * 12).node, ("short", ((0, 0), (0, 0))))

    def test_each_item_alone(self):
        # Together only one of these items has room, but alone each has two rows.
        made = cluster([(1,), (1,)], [(stages(1, 1), ())])
        refuse(self, TooWide, 4096, pack, Takes(made, []), [item(0)] * 13)
        # The takes count for each alone: here each has one row.
        takes = Takes(made, [(0, 0, 1, (1,), -1)])
        self.assertEqual(pack(takes, [item(0)] * 13).node, ("cases", ((0, 1), ("short", ((0, 0), (0, 0))))))
        self.assertEqual(pack(Takes(made, []), [item(0)] * 13, barred=(0,)).node,
                         ("cases", ((0, 1), ("short", ((0, "barred"), (0, 0))))))

    def test_present_rows_on_shut_machines_count(self):
        made = cluster([(99,), (99,), (99,)], [(stages(1, 1), ())])
        takes = Takes(made, [])
        self.assertEqual(len(pack(takes, [item(0)] * 12, shut=(0,)).places), 12)
        self.assertEqual(len(pack(takes, [item(0, (0, 1, 0))] * 12, shut=(0,)).places), 12)
        refuse(self, TooWide, 4096, pack, takes, [item(0)] * 11 + [item(0, (1, 0, 0))], shut=(0,))
        self.assertEqual(len(pack(takes, [item(0)] * 11 + [item(0, (1, 0, 0))], barred=(0,)).places), 12)

    def test_before_anything_else(self):
        # The first item is short, and still the width of the others counts.
        made = cluster([(9,), (9,)], [(stages(1, 1), ()), (stages(1, 9), ())])
        refuse(self, TooWide, 4096, pack, Takes(made, [(0, 0, 1, (1,), -1), (1, 0, 1, (1,), -1)]),
               [item(1)] + [item(0)] * 13)


class CertificatesTest(unittest.TestCase):
    def test_kinds(self):
        self.assertEqual(Packing.__bases__, (Certificate, Yes))
        self.assertEqual(CaseTree.__bases__, (Certificate, No))
        self.assertIs(Packing(()).holds(), True)
        self.assertIs(CaseTree(()).holds(), False)

    def test_notes(self):
        made = cluster([(1,), (1,)], [(stages(1, 1), ())])
        packed = pack(Takes(made, []), [item(0), item(0)])
        self.assertEqual(packed.note(), ("packing", ((0, 1), (1, 0))))
        self.assertEqual(pack(Takes(made, []), []).note(), ("packing", ()))
        tree = pack(Takes(made, []), [item(0)] * 2, barred=(0,))
        self.assertEqual(tree.note(), ("tree", ("cases", ((0, 1), ("short", ((0, "barred"), (0, 0)))))))
        for certificate in (packed, tree):
            self.assertEqual(read_note(write_note(certificate.note())), certificate.note())

    def test_arguments_are_stored_as_they_are(self):
        value = ("x", (1, 2))
        self.assertIs(Packing(value).places, value)
        self.assertIs(CaseTree(value).node, value)
        self.assertEqual((Packing(value).note(), CaseTree(value).note()), (("packing", value), ("tree", value)))


class UnchangedTest(unittest.TestCase):
    def test_nothing_is_changed(self):
        made = cluster([(1,), (1,)], [(stages(1, 1), ())])
        rows = [(0, 3, 4, (1,), -1)]
        takes = Takes(made, rows)
        for items in ([item(0), item(0, (0, 1))], [item(0)] * 3, [item(0)] * 13):
            before = copy.copy(items)
            try:
                pack(takes, items, barred=(), shut=(1,))
                pack(takes, items)
            except TooWide:
                pass
            self.assertEqual(items, before)
            self.assertEqual(list(takes), rows)


if __name__ == "__main__":
    unittest.main()
