"""Points 67 and 68: menus, and all shapes that their books lead to."""

import random
import unittest

from gangbooks.clustertext import read_cluster
from gangbooks.errors import BadEvent, BadMenu, TooWide, Unknown
from gangbooks.failing import failing_step
from gangbooks.hours import basic_step
from gangbooks.menus import Menu, explore
from gangbooks.policy import Policy
from gangbooks.shapes import shape
from gangbooks.state import State
from tests.support import job, refuse, state
from tests.worlds import POLICIES, random_cluster

CLUSTER = read_cluster(
    "resources core\nmachine m1 zone y has 4\nmachine m2 zone z has 2\nmachine m3 zone z has 1\n"
    "group g under - weight 1 floor 0\n"
    "template a group g rank 1 every 0 stage 1 of 2 for 2\n"
    "template c group g rank 9 every 1 stage 1 of 4 for 3")
FREE = "age first never free"
EMPTY = State.empty(CLUSTER, Policy.read(FREE))
TICK = ("tick",)


class MenuTest(unittest.TestCase):
    def test_attributes(self):
        menu = Menu("c", "a")
        self.assertEqual((menu.templates, menu.many, menu.failures, menu.early, menu.drops), (("c", "a"), 2, 0, False, False))
        menu = Menu("x", many=12, failures=6, early=True, drops=True)
        self.assertEqual((menu.templates, menu.many, menu.failures, menu.early, menu.drops), (("x",), 12, 6, True, True))
        self.assertEqual(Menu().templates, ())

    def test_templates_told_twice(self):
        refuse(self, BadMenu, "a", Menu, "a", "a")
        refuse(self, BadMenu, "b", Menu, "a", "b", "c", "b", "a")
        refuse(self, BadMenu, "a", Menu, "a", "b", "a", "b")

    def test_many(self):
        for many in (1, 2, 11, 12):
            self.assertEqual(Menu(many=many).many, many)
        for many in (0, -1, 13, 100):
            refuse(self, BadMenu, many, Menu, "a", many=many)

    def test_failures(self):
        for failures in range(7):
            self.assertEqual(Menu(failures=failures).failures, failures)
        for failures in (-1, 7, 12):
            refuse(self, BadMenu, failures, Menu, "a", failures=failures)

    def test_the_order_of_the_errors(self):
        refuse(self, BadMenu, "a", Menu, "a", "a", many=0, failures=9)
        refuse(self, BadMenu, 13, Menu, "a", many=13, failures=-1)

    def test_many_assigned(self):
        menu = Menu("a")
        menu.many = 5
        self.assertEqual(menu.many, 5)
        self.assertIsNone(menu.set_many(1))
        self.assertEqual(menu.many, 1)
        menu.many += 2
        self.assertEqual(menu.many, 3)
        for many in (0, 13, -5):
            refuse(self, BadMenu, many, menu.set_many, many)
            refuse(self, BadMenu, many, setattr, menu, "many", many)
            self.assertEqual(menu.many, 3)
        self.assertIsInstance(vars(Menu)["many"], property)

    def test_comings(self):
        menu = Menu("c", "a", "strange")
        comings = [("come", "x1", "c"), ("come", "x1", "a"), ("come", "x1", "strange")]
        self.assertEqual(menu(EMPTY), comings + [TICK])
        self.assertEqual(menu(state(CLUSTER, FREE, [job("j")])), comings + [TICK])
        self.assertEqual(menu(state(CLUSTER, FREE, [job("j"), job("k")])), [TICK])
        self.assertEqual(menu(state(CLUSTER, FREE, [job("j"), job("k"), job("l")])), [TICK])
        self.assertEqual(Menu()(EMPTY), [TICK])

    def test_many_is_looked_at_when_the_menu_is_called(self):
        menu = Menu("a", many=1)
        one = state(CLUSTER, FREE, [job("j")])
        self.assertEqual(menu(one), [TICK])
        menu.many = 2
        self.assertEqual(menu(one), [("come", "x1", "a"), TICK])
        menu.set_many(1)
        self.assertEqual(menu(one), [TICK])

    def test_names_that_are_taken(self):
        for names, free in ((("x1",), "x2"), (("x2",), "x1"), (("x2", "x1"), "x3"), (("x1", "x3"), "x2"), (("x01", "x", "xx1"), "x1"),
                            (tuple(f"x{at}" for at in range(11, 0, -1)), "x12")):
            now = state(CLUSTER, FREE, [job(name) for name in names])
            self.assertEqual(Menu("a", many=12)(now), [("come", free, "a"), TICK])

    def test_early_and_drops(self):
        jobs = [job("r", 0, (1, 0, 0)), job("w"), job("f", 0, (0, 1, 0), firm=True), job("v"), job("g", 0, firm=True, plan=((0, 9, (1, 0, 0)),))]
        now = state(CLUSTER, FREE, jobs)
        early = [("early", "r"), ("early", "f")]
        drops = [("drop", "w"), ("drop", "v")]
        self.assertEqual(Menu(early=True)(now), early + [TICK])
        self.assertEqual(Menu(drops=True)(now), drops + [TICK])
        self.assertEqual(Menu("a", many=6, early=True, drops=True)(now), [("come", "x1", "a")] + early + drops + [TICK])

    def test_failures_and_repairs(self):
        fails = [("fail", "m1"), ("fail", "m2"), ("fail", "m3")]
        repairs = [("repair", "m1"), ("repair", "m2"), ("repair", "m3")]
        self.assertEqual(Menu(failures=1)(EMPTY), fails + [TICK])
        self.assertEqual(Menu(failures=1)(state(CLUSTER, FREE, down=(1,))), [repairs[1], TICK])
        self.assertEqual(Menu(failures=2)(state(CLUSTER, FREE, down=(1,))), [fails[0], fails[2], repairs[1], TICK])
        self.assertEqual(Menu(failures=2)(state(CLUSTER, FREE, down=(0, 1, 2))), repairs + [TICK])
        self.assertEqual(Menu(failures=6)(state(CLUSTER, FREE, down=(0, 1, 2))), repairs + [TICK])
        self.assertEqual(Menu()(state(CLUSTER, FREE, down=(0, 1))), [TICK])

    def test_all_together_in_order(self):
        now = state(CLUSTER, FREE, [job("r", 0, (0, 1, 0)), job("w")], down=(0,))
        self.assertEqual(Menu("a", "c", many=3, failures=2, early=True, drops=True)(now), [
            ("come", "x1", "a"), ("come", "x1", "c"), ("early", "r"), ("drop", "w"), ("fail", "m2"), ("fail", "m3"), ("repair", "m1"), TICK])

    def test_a_new_list_each_time(self):
        menu = Menu("a")
        menu(EMPTY).clear()
        self.assertEqual(menu(EMPTY), [("come", "x1", "a"), TICK])


def by_hand(start, menu, step):
    """All shapes breadth first, with the states, from whole lists of states."""
    found, layer = [(shape(start), start)], [start]
    while layer:
        behind = []
        for now in layer:
            for event in menu(now):
                after = step(now, event)[0]
                if shape(after) not in [one for one, _ in found]:
                    found.append((shape(after), after))
                    behind.append(after)
        layer = behind
    return found


class ExploreTest(unittest.TestCase):
    def test_in_its_order(self):
        found = list(explore(EMPTY, Menu("a", "c", many=1), basic_step))
        self.assertEqual([one.note()[1:] for _, one in found], [
            (0, ("age", "first", "never", "free"), (), (), (), jobs) for jobs in (
                (), (("x1", 0, 0, 0, 0, 0, (1, 0, 0), 0, (), 0, 0, 0),), (("x1", 1, 0, 0, 0, 0, (1, 0, 0), 0, (), 0, 0, 0),))] + [
            (hour, ("age", "first", "never", "free"), (), (), (), jobs) for hour, jobs in (
                (1, (("x1", 0, 0, 0, 0, 1, (1, 0, 0), 0, (), 1, 0, 0),)), (1, (("x1", 1, 0, 0, 0, 1, (1, 0, 0), 0, (), 1, 0, 0),)),
                (2, (("x1", 1, 0, 0, 0, 2, (1, 0, 0), 0, (), 2, 0, 0),)))])
        for pair in found:
            self.assertIsInstance(pair, tuple)
            self.assertEqual(pair[0], shape(pair[1]))
        self.assertIs(found[0][1], EMPTY)

    def test_only_a_tick(self):
        self.assertEqual(list(explore(EMPTY, Menu(), basic_step)), [(shape(EMPTY), EMPTY)])
        now = state(CLUSTER, FREE, [job("j", 1, (1, 0, 0))], hour=5, windows=((1, 6, 8),))
        self.assertEqual([one.hour for _, one in explore(now, Menu(), basic_step)], [5, 6, 7, 8])

    def test_against_whole_lists(self):
        dice = random.Random(68)
        for _ in range(10):
            made = random_cluster(dice)
            start = State.empty(made, dice.choice(POLICIES))
            menu = Menu(made.templates[0].name, many=dice.randrange(1, 3), failures=dice.randrange(2), early=dice.random() < 0.5, drops=dice.random() < 0.5)
            wanted = by_hand(start, menu, failing_step)
            found = list(explore(start, menu, failing_step))
            self.assertEqual([(one, now.note()) for one, now in found], [(one, now.note()) for one, now in wanted])

    def test_too_wide(self):
        menu = Menu("a", "c")
        many = len(list(explore(EMPTY, menu, basic_step)))
        self.assertGreater(many, 10)
        self.assertEqual(len(list(explore(EMPTY, menu, basic_step, most=many))), many)
        for most in (many - 1, 5, 1):
            found = []

            def collect():
                for pair in explore(EMPTY, menu, basic_step, most=most):
                    found.append(pair)

            refuse(self, TooWide, most, collect)
            self.assertEqual([one for one, _ in found], [one for one, _ in explore(EMPTY, menu, basic_step)][:most])

    def test_the_greatest_number_is_1000_if_none_is_given(self):
        wide = read_cluster(
            "resources core\nmachine m1 zone y has 9\ngroup g under - weight 1 floor 0\n"
            "template a group g rank 1 every 0 stage 1 of 1 for 24")
        refuse(self, TooWide, 1000, lambda: list(explore(State.empty(wide, Policy.read(FREE)), Menu("a", many=4), basic_step)))

    def test_errors_of_the_step(self):
        refuse(self, Unknown, "strange", lambda: list(explore(EMPTY, Menu("a", "strange"), basic_step)))
        refuse(self, BadEvent, ("fail", "m1"), lambda: list(explore(EMPTY, Menu(failures=1), basic_step)))
        # The template is not asked for as long as no job can come.
        now = state(CLUSTER, FREE, [job("j", 1, (1, 0, 0)), job("k", 1, (1, 0, 0))])
        found = iter(explore(now, Menu("strange"), basic_step))
        self.assertEqual([next(found)[1].hour for _ in range(3)], [0, 1, 2])
        refuse(self, Unknown, "strange", lambda: [next(found) for _ in range(9)])
        # What is found first decides.
        refuse(self, TooWide, 1, lambda: list(explore(EMPTY, Menu("a", "strange"), basic_step, most=1)))
        refuse(self, Unknown, "strange", lambda: list(explore(EMPTY, Menu("strange", "a"), basic_step, most=1)))


if __name__ == "__main__":
    unittest.main()
