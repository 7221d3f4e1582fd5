"""Points 9, 10 and 12: clusters and the checks of their rows."""

import copy
import unittest

from gangbooks.amounts import Amounts
from gangbooks.cluster import Cluster, Group, Machine, Stage, Template
from gangbooks.errors import BadRow, Unknown
from gangbooks.signs import is_name
from tests.support import refuse, rows

STAGE = (1, (1, 0), 1)


def machine(name="m", zone="z", labels=(), amounts=(4, 4)):
    return (name, zone, labels, amounts)


def group(name="g", parent="", weight=1, floor=(0, 0), limit=None):
    return (name, parent, weight, floor, limit)


def template(name="t", leaf="leaf", rank=0, every=0, stages=(STAGE,), wishes=()):
    return (name, leaf, rank, every, stages, wishes)


class Checks(unittest.TestCase):
    def good(self, **parts):
        return Cluster(*rows(**parts))

    def bad(self, part, at, **parts):
        refuse(self, BadRow, (part, at), Cluster, *rows(**parts))


class NamesTest(unittest.TestCase):
    def test_names(self):
        for text in ("a", "z", "a0", "z9", "abcdefgh", "a1234567", "azazazaz"):
            self.assertIs(is_name(text), True, text)

    def test_no_names(self):
        for text in ("", "0", "9a", "abcdefghi", "a2345678z", "A", "aB", "a b", "a-b", "a_b", "a:b", " a", "a ", "a\n", "-",
                     "a`", "a{", "a/", "`", "{"):
            self.assertIs(is_name(text), False, text)


class ResourcesTest(Checks):
    def with_resources(self, names):
        many = len(names)
        return {
            "resources": names,
            "machines": [machine(amounts=(3,) * many)],
            "groups": [group("leaf", floor=(0,) * many)],
            "templates": [template(stages=((1, (1,) * many, 1),))],
        }

    def test_one_to_three(self):
        for names in (["a"], ["a", "b"], ["a", "b", "c"]):
            made = self.good(**self.with_resources(names))
            self.assertEqual(made.resources, tuple(names))
            self.assertEqual(made.total.numbers, (3,) * len(names))

    def test_none_or_too_many(self):
        self.bad("resources", 0, resources=[])
        self.bad("resources", 3, resources=["a", "b", "c", "d"])
        self.bad("resources", 3, resources=["a", "b", "c", "d", "e"])

    def test_an_earlier_invalid_entry_counts_first(self):
        self.bad("resources", 1, resources=["a", "B", "c", "d"])
        self.bad("resources", 2, resources=["a", "b", "a", "d"])
        self.bad("resources", 3, resources=["a", "b", "c", "a"])

    def test_invalid_names(self):
        self.bad("resources", 0, resources=["", "b"])
        self.bad("resources", 1, resources=["a", "1b"])
        self.bad("resources", 1, resources=["a", "a"])
        self.bad("resources", 0, resources=["abcdefghi"])


class MachinesTest(Checks):
    def test_one_to_six(self):
        for many in (1, 6):
            made = self.good(machines=[machine(f"m{at}") for at in range(many)])
            self.assertEqual(len(made.machines), many)

    def test_none_or_too_many(self):
        self.bad("machines", 0, machines=[])
        self.bad("machines", 6, machines=[machine(f"m{at}") for at in range(7)])
        self.bad("machines", 6, machines=[machine(f"m{at}") for at in range(9)])

    def test_an_earlier_invalid_entry_counts_first(self):
        self.bad("machines", 5, machines=[machine(f"m{at}") for at in range(5)] + [machine("m0"), machine("x")])
        self.bad("machines", 6, machines=[machine(f"m{at}") for at in range(6)] + [machine("m0")])

    def test_names_and_zones(self):
        self.bad("machines", 0, machines=[machine("M")])
        self.bad("machines", 0, machines=[machine("")])
        self.bad("machines", 1, machines=[machine("m"), machine("m", "y")])
        self.bad("machines", 0, machines=[machine(zone="")])
        self.bad("machines", 1, machines=[machine(), machine("n", "Z")])
        self.good(machines=[machine("m", "m"), machine("n", "m")])
        self.good(machines=[machine("core", "mem", ("core",))])

    def test_labels(self):
        self.good(machines=[machine(labels=("a", "b", "c", "d", "e", "f"))])
        self.bad("machines", 0, machines=[machine(labels=("a", "b", "c", "d", "e", "f", "g"))])
        self.bad("machines", 0, machines=[machine(labels=("a", "b", "a"))])
        self.bad("machines", 0, machines=[machine(labels=("a", "a"))])
        self.bad("machines", 0, machines=[machine(labels=("a", "B"))])
        self.bad("machines", 0, machines=[machine(labels=("",))])
        self.good(machines=[machine(labels=("a",)), machine("n", labels=("a",))])

    def test_amounts(self):
        self.good(machines=[machine(amounts=(9999, 9999)), machine("n", amounts=(3, 3))])
        self.bad("machines", 0, machines=[machine(amounts=(10000, 0))])
        self.bad("machines", 1, machines=[machine(), machine("n", amounts=(0, 10000))])
        self.bad("machines", 0, machines=[machine(amounts=(-1, 5))])
        self.bad("machines", 0, machines=[machine(amounts=(5, -1))])
        self.bad("machines", 0, machines=[machine(amounts=(0, 0))])
        self.good(machines=[machine(), machine("n", amounts=(0, 1)), machine("o", amounts=(1, 0))])

    def test_length_of_amounts(self):
        for amounts in ((), (4,), (4, 4, 4), (4, 4, 4, 4)):
            self.bad("machines", 1, machines=[machine(), machine("n", amounts=amounts)])


class GroupsTest(Checks):
    def with_groups(self, *groups):
        leaf = [row[0] for row in groups if row[0] not in [other[1] for other in groups]]
        return {"groups": list(groups), "templates": [template(leaf=leaf[0] if leaf else "leaf")]}

    def fine(self, *groups):
        return self.good(**self.with_groups(*groups))

    def wrong(self, at, *groups):
        self.bad("groups", at, **self.with_groups(*groups))

    def test_one_to_eight(self):
        for many in (1, 8):
            self.assertEqual(len(self.fine(*[group(f"g{at}") for at in range(many)]).groups), many)

    def test_none_or_too_many(self):
        self.wrong(0)
        self.wrong(8, *[group(f"g{at}") for at in range(9)])
        self.wrong(8, *[group(f"g{at}") for at in range(11)])

    def test_an_earlier_invalid_entry_counts_first(self):
        self.wrong(7, *[group(f"g{at}") for at in range(7)], group("g0"), group("h"))
        self.wrong(8, *[group(f"g{at}") for at in range(8)], group("g0"))

    def test_names_and_parents(self):
        self.wrong(0, group("G"))
        self.wrong(1, group("g"), group("g"))
        self.wrong(2, group("g"), group("h", "g"), group("g", "h"))
        self.wrong(0, group("g", "g"))
        self.wrong(0, group("g", "h"), group("h"))
        self.wrong(1, group("g"), group("h", "x"))
        self.wrong(1, group("g"), group("h", "-"))
        self.fine(group("g"), group("h", "g"), group("i", "g"), group("j", "h"))

    def test_three_groups_above(self):
        chain = [group("a"), group("b", "a"), group("c", "b"), group("d", "c")]
        made = self.fine(*chain)
        self.assertEqual(made.groups[3].path, (0, 1, 2, 3))
        self.wrong(4, *chain, group("e", "d"))
        self.fine(*chain, group("e", "c"))

    def test_weight(self):
        self.fine(group(weight=1))
        self.fine(group(weight=99))
        self.wrong(0, group(weight=0))
        self.wrong(0, group(weight=100))
        self.wrong(0, group(weight=-1))

    def test_floor(self):
        wide = [machine(amounts=(9999, 9999)), machine("n", amounts=(9999, 9999))]
        self.good(machines=wide, **self.with_groups(group(floor=(9999, 0))))
        self.bad("groups", 0, machines=wide, **self.with_groups(group(floor=(10000, 0))))
        self.bad("groups", 0, machines=wide, **self.with_groups(group(floor=(0, 10000))))
        self.wrong(0, group(floor=(-1, 0)))
        self.wrong(0, group(floor=(0, -1)))
        for floor in ((), (0,), (0, 0, 0)):
            self.wrong(1, group(), group("h", floor=floor))

    def test_limit(self):
        self.fine(group(limit=(0, 0)))
        self.fine(group(limit=(9999, 9999)))
        self.fine(group(floor=(2, 3), limit=(2, 3)))
        self.wrong(0, group(limit=(10000, 9)))
        self.wrong(0, group(limit=(9, 10000)))
        self.wrong(0, group(limit=(-1, 9)))
        self.wrong(0, group(floor=(2, 3), limit=(1, 3)))
        self.wrong(0, group(floor=(2, 3), limit=(2, 2)))
        for limit in ((), (5,), (5, 5, 5)):
            self.wrong(0, group(limit=limit))

    def test_floors_of_top_groups_within_the_machines(self):
        # The machines of the small cluster have (6, 10) together.
        self.fine(group(floor=(6, 10)))
        self.wrong(0, group(floor=(7, 10)))
        self.wrong(0, group(floor=(6, 11)))
        self.fine(group(floor=(4, 4)), group("h", floor=(2, 6)))
        self.wrong(1, group(floor=(4, 4)), group("h", floor=(3, 6)))
        self.wrong(2, group(floor=(4, 4)), group("h", floor=(2, 5)), group("i", floor=(0, 2)))

    def test_floors_within_the_floor_of_the_parent(self):
        top = group("a", floor=(3, 4))
        self.fine(top, group("b", "a", floor=(3, 4)))
        self.wrong(1, top, group("b", "a", floor=(4, 4)))
        self.wrong(1, top, group("b", "a", floor=(3, 5)))
        self.fine(top, group("b", "a", floor=(1, 4)), group("c", "a", floor=(2, 0)))
        self.wrong(2, top, group("b", "a", floor=(1, 4)), group("c", "a", floor=(3, 0)))
        self.wrong(2, top, group("b", "a", floor=(1, 4)), group("c", "a", floor=(2, 1)))
        self.wrong(3, top, group("b", "a", floor=(1, 1)), group("c", "a", floor=(1, 1)), group("d", "a", floor=(2, 0)))

    def test_floors_of_other_parents_do_not_count(self):
        self.fine(group("a", floor=(3, 4)), group("b", floor=(3, 4)), group("c", "a", floor=(3, 4)),
                  group("d", "b", floor=(3, 4)), group("e", "c", floor=(3, 4)))
        self.wrong(2, group("a", floor=(3, 4)), group("b", floor=(2, 4)), group("c", "b", floor=(3, 4)))

    def test_a_limit_need_not_be_within_the_parent(self):
        self.fine(group("a", limit=(1, 1)), group("b", "a", limit=(9, 9)))


class TemplatesTest(Checks):
    def fine(self, *templates):
        return self.good(templates=list(templates))

    def wrong(self, at, *templates):
        self.bad("templates", at, templates=list(templates))

    def test_one_to_eight(self):
        for many in (1, 8):
            self.assertEqual(len(self.fine(*[template(f"t{at}") for at in range(many)]).templates), many)

    def test_none_or_too_many(self):
        self.wrong(0)
        self.wrong(8, *[template(f"t{at}") for at in range(9)])
        self.wrong(8, *[template(f"t{at}") for at in range(12)])

    def test_an_earlier_invalid_entry_counts_first(self):
        self.wrong(7, *[template(f"t{at}") for at in range(7)], template("t0"), template("x"))
        self.wrong(8, *[template(f"t{at}") for at in range(8)], template("t0"))

    def test_names_and_groups(self):
        self.wrong(0, template("T"))
        self.wrong(1, template("t"), template("t"))
        self.wrong(0, template(leaf="top"))
        self.wrong(0, template(leaf=""))
        self.wrong(1, template(), template("u", leaf="none"))
        self.fine(template("leaf"), template("top"))

    def test_rank_and_every(self):
        for rank in (0, 99):
            self.fine(template(rank=rank))
        for rank in (-1, 100):
            self.wrong(0, template(rank=rank))
        for every in (0, 24):
            self.fine(template(every=every))
        for every in (-1, 25):
            self.wrong(0, template(every=every))

    def test_number_of_stages(self):
        self.fine(template(stages=(STAGE,) * 3))
        self.wrong(0, template(stages=()))
        self.wrong(0, template(stages=(STAGE,) * 4))

    def test_tasks_and_hours(self):
        for tasks in (1, 6):
            self.fine(template(stages=((tasks, (1, 1), 1),)))
        for tasks in (-1, 0, 7):
            self.wrong(0, template(stages=((tasks, (1, 1), 1),)))
        for hours in (1, 24):
            self.fine(template(stages=((1, (1, 1), hours),)))
        for hours in (-1, 0, 25):
            self.wrong(0, template(stages=((1, (1, 1), hours),)))

    def test_amounts(self):
        for amounts in ((9999, 9999), (0, 1), (1, 0)):
            self.fine(template(stages=((1, amounts, 1),)))
        for amounts in ((0, 0), (10000, 0), (0, 10000), (-1, 1), (1, -1), (), (1,), (1, 1, 1)):
            self.wrong(0, template(stages=((1, amounts, 1),)))

    def test_each_stage_counts(self):
        wrong = (1, (0, 0), 1)
        self.wrong(1, template(), template("u", stages=(STAGE, STAGE, wrong)))
        self.wrong(1, template(), template("u", stages=(STAGE, wrong, STAGE)))

    def test_wishes(self):
        self.fine(template(wishes=("near", "apart", "needs:a", "bars:a", "likes:a", "never:t")))
        self.wrong(0, template(wishes=("near", "apart", "needs:a", "bars:a", "likes:a", "never:t", "likes:b")))
        self.fine(template(wishes=("needs:a", "needs:b", "likes:abcdefgh")))
        for wishes in (("near", "near"), ("needs:a", "near", "needs:a"), ("Near",), ("",), ("needs",), ("needs:",),
                       ("needs:A",), ("needs:a:b",), ("near:a",), ("apart:",), ("wants:a",), (":a",), ("never:",),
                       ("likes:abcdefghi",), ("needs a",), ("never:T",), ("near ",), ("apart", "far")):
            self.wrong(0, template(wishes=wishes))

    def test_templates_behind_never(self):
        self.fine(template(wishes=("never:t",)))
        self.fine(template(wishes=("never:u",)), template("u"))
        self.fine(template(), template("u", wishes=("never:t",)))
        self.wrong(0, template(wishes=("never:u",)))
        self.wrong(1, template(wishes=("never:u",)), template("u", wishes=("never:t", "never:leaf")))

    def test_templates_behind_never_are_looked_for_last(self):
        lost = template(wishes=("never:x",))
        self.wrong(1, lost, template("u", rank=100))
        self.wrong(8, lost, *[template(f"u{at}") for at in range(8)])
        self.wrong(0, lost, template("u", wishes=("never:y",)))
        self.wrong(2, template(), template("u"), template("v", wishes=("near", "never:y")))


class OrderTest(Checks):
    def test_parts_in_order(self):
        bad = {"machines": [machine("M")], "groups": [group("G")], "templates": [template("T")]}
        self.bad("resources", 1, resources=["a", "A"], **bad)
        self.bad("machines", 0, **bad)
        del bad["machines"]
        self.bad("groups", 0, **bad)
        del bad["groups"]
        self.bad("templates", 0, **bad)

    def test_an_empty_part_counts_in_its_place(self):
        self.bad("machines", 0, machines=[], groups=[])
        self.bad("groups", 0, groups=[], templates=[])

    def test_the_first_of_several_invalid_entries(self):
        self.bad("machines", 1, machines=[machine(), machine("n", "Z"), machine("M")])
        self.bad("groups", 1, groups=[group(), group("h", weight=0), group("G")])
        self.bad("templates", 1, templates=[template(), template("u", rank=-1), template("T")])


class AttributesTest(unittest.TestCase):
    def setUp(self):
        self.made = Cluster(
            ["core", "mem"],
            [("m1", "z1", ("fast", "big"), (4, 8)), ("m2", "z2", (), (2, 0))],
            [("a", "", 3, (3, 3), (7, 7)), ("b", "a", 4, (1, 2), None), ("c", "b", 5, (1, 0), (1, 1)), ("d", "", 1, (0, 0), None)],
            [("s", "c", 9, 2, ((2, (1, 4), 3), (6, (0, 2), 1)), ("likes:x", "near", "needs:fast", "never:u", "likes:y")),
             ("t", "d", 0, 0, ((1, (1, 0), 24),), ("bars:big", "apart", "bars:old", "needs:n", "never:t")),
             ("u", "d", 7, 24, ((1, (1, 0), 1),), ()),
             ("v", "d", 7, 24, ((1, (1, 0), 1),), ("never:s", "never:u"))])

    def test_machines(self):
        first, second = self.made.machines
        self.assertIsInstance(self.made.machines, tuple)
        self.assertIsInstance(first, Machine)
        self.assertEqual((first.name, first.zone, first.labels), ("m1", "z1", ("fast", "big")))
        self.assertEqual(first.amounts, Amounts(4, 8))
        self.assertEqual((second.name, second.zone, second.labels, second.amounts.numbers), ("m2", "z2", (), (2, 0)))

    def test_total(self):
        self.assertEqual(self.made.total, Amounts(6, 8))
        self.assertEqual(self.made.resources, ("core", "mem"))

    def test_groups(self):
        groups = self.made.groups
        self.assertIsInstance(groups, tuple)
        self.assertIsInstance(groups[0], Group)
        self.assertEqual([row.name for row in groups], ["a", "b", "c", "d"])
        self.assertEqual([row.parent for row in groups], [None, 0, 1, None])
        self.assertEqual([row.weight for row in groups], [3, 4, 5, 1])
        self.assertEqual([row.floor for row in groups], [Amounts(3, 3), Amounts(1, 2), Amounts(1, 0), Amounts(0, 0)])
        self.assertEqual([row.limit for row in groups], [Amounts(7, 7), None, Amounts(1, 1), None])
        self.assertEqual([row.path for row in groups], [(0,), (0, 1), (0, 1, 2), (3,)])
        self.assertEqual([row.leaf for row in groups], [False, False, True, True])
        self.assertIs(groups[0].leaf, False)
        self.assertIs(groups[2].leaf, True)

    def test_templates(self):
        first, second, third, last = self.made.templates
        self.assertIsInstance(self.made.templates, tuple)
        self.assertIsInstance(first, Template)
        self.assertEqual((first.name, first.group, first.rank, first.every), ("s", 2, 9, 2))
        self.assertEqual((second.name, second.group, second.rank, second.every), ("t", 3, 0, 0))
        self.assertEqual((third.name, third.group, third.rank, third.every), ("u", 3, 7, 24))

    def test_wishes(self):
        first, second, third, last = self.made.templates
        self.assertEqual(first.wishes, ("likes:x", "near", "needs:fast", "never:u", "likes:y"))
        self.assertEqual((first.needs, first.bars, first.likes), (("fast",), (), ("x", "y")))
        self.assertEqual((second.needs, second.bars, second.likes), (("n",), ("big", "old"), ()))
        self.assertEqual((third.needs, third.bars, third.likes), ((), (), ()))
        self.assertEqual([row.near for row in self.made.templates], [True, False, False, False])
        self.assertEqual([row.apart for row in self.made.templates], [False, True, False, False])
        self.assertIs(first.near, True)
        self.assertIs(third.apart, False)

    def test_foes_in_both_directions(self):
        self.assertEqual([row.foes for row in self.made.templates], [(2, 3), (1,), (0, 3), (0, 2)])

    def test_stages(self):
        stages = self.made.templates[0].stages
        self.assertIsInstance(stages, tuple)
        self.assertIsInstance(stages[0], Stage)
        self.assertEqual([row.tasks for row in stages], [2, 6])
        self.assertEqual([row.amounts for row in stages], [Amounts(1, 4), Amounts(0, 2)])
        self.assertEqual([row.hours for row in stages], [3, 1])
        self.assertEqual([row.total for row in stages], [Amounts(2, 8), Amounts(0, 12)])

    def test_stage_of_a_gang(self):
        self.assertIs(self.made.stage_of((0, 1)), self.made.templates[0].stages[1])
        self.assertIs(self.made.stage_of((1, 0)), self.made.templates[1].stages[0])

    def test_indexes(self):
        self.assertEqual([self.made.machine_index(name) for name in ("m1", "m2")], [0, 1])
        self.assertEqual([self.made.group_index(name) for name in "abcd"], [0, 1, 2, 3])
        self.assertEqual([self.made.template_index(name) for name in "stuv"], [0, 1, 2, 3])

    def test_unknown_names(self):
        refuse(self, Unknown, "a", self.made.machine_index, "a")
        refuse(self, Unknown, "m1", self.made.group_index, "m1")
        refuse(self, Unknown, "x", self.made.template_index, "x")
        refuse(self, Unknown, "", self.made.group_index, "")


class EntriesTest(unittest.TestCase):
    def test_entries_are_those_that_were_passed_in(self):
        given = rows()
        entries = Cluster(*given).entries()
        self.assertIsInstance(entries, tuple)
        self.assertEqual(entries, given)
        self.assertEqual([type(part) for part in entries], [list] * 4)

    def test_what_is_passed_in_is_copied_and_unchanged(self):
        given = rows()
        before = copy.deepcopy(given)
        made = Cluster(*given)
        self.assertEqual(given, before)
        for part in given:
            part.clear()
        self.assertEqual(made.entries(), before)
        self.assertEqual((len(made.machines), len(made.groups), len(made.templates)), (2, 2, 1))

    def test_what_is_returned_is_new(self):
        made = Cluster(*rows())
        for part in made.entries():
            part.append("x")
        self.assertEqual(made.entries(), rows())
        self.assertEqual(made, Cluster(*rows()))

    def test_a_refused_list_is_unchanged(self):
        given = rows(templates=[template(rank=100)])
        before = copy.deepcopy(given)
        refuse(self, BadRow, ("templates", 0), Cluster, *given)
        self.assertEqual(given, before)

    def test_equality(self):
        self.assertIs(Cluster(*rows()) == Cluster(*rows()), True)
        self.assertIs(Cluster(*rows()) != Cluster(*rows()), False)
        others = [
            {"resources": ["core", "gpu"]},
            {"machines": [("m1", "z1", ("fast",), (4, 8)), ("m2", "z2", (), (2, 3))]},
            {"groups": [("top", "", 1, (3, 3), None), ("leaf", "top", 2, (1, 1), None)]},
            {"templates": [template("a")]},
        ]
        for other in others:
            self.assertIs(Cluster(*rows()) == Cluster(*rows(**other)), False)
        self.assertIs(Cluster(*rows()) == rows(), False)


if __name__ == "__main__":
    unittest.main()
