"""Point 71: how long a job can wait at most, or whether it can wait for ever."""

import random
import unittest

from gangbooks.clustertext import read_cluster
from gangbooks.errors import BadEvent, TooWide, Unknown
from gangbooks.failing import failing_step
from gangbooks.hours import basic_step
from gangbooks.menus import Menu, explore
from gangbooks.notes import No, Yes
from gangbooks.policy import Policy
from gangbooks.shapes import shape
from gangbooks.state import State
from gangbooks.waits import WaitBound, WaitRing, longest_wait
from tests import slow
from tests.support import refuse
from tests.worlds import POLICIES, perform, random_cluster

TICK = ("tick",)
# The cluster of the document's example, with a template that never has room.
ONE = read_cluster(
    "resources core\nmachine m1 zone z has 2\ngroup g under - weight 1 floor 0\n"
    "template a group g rank 1 every 0 stage 1 of 2 for 2\n"
    "template b group g rank 5 every 0 stage 1 of 2 for 1\n"
    "template big group g rank 9 every 0 stage 2 of 2 for 1\n"
    "template two group g rank 2 every 0 stage 1 of 2 for 1 stage 1 of 1 for 1")


def empty(words="rank first any free"):
    return State.empty(ONE, Policy.read(words))


def after(start, *events):
    """The state behind some events."""
    for event in events:
        start, _ = perform(start, event)
    return start


def ways_by_hand(start, menu, template, step):
    """The triples' ways with those behind each: {(shape, index): {(way behind, whether by a tick)}}, and the first ones."""
    firsts, ways, waiting = set(), {}, []

    def way(now, name):
        return shape(now), [job.name for job in now].index(name)

    for _, now in explore(start, menu, step):
        for event in menu(now):
            if event[0] == "come" and event[2] == template:
                new, _ = step(now, event)
                if new[event[1]].began is None:
                    firsts.add(way(new, event[1]))
                    waiting.append((new, event[1]))
    while waiting:
        now, name = waiting.pop()
        if way(now, name) not in ways:
            ways[way(now, name)] = set()
            for event in menu(now):
                if event != ("drop", name):
                    new, _ = step(now, event)
                    if new[name].began is None:
                        ways[way(now, name)].add((way(new, name), event == TICK))
                        waiting.append((new, name))
    return firsts, ways


def run_book(test, start, menu, step, book):
    """The states behind each event of a book, each of which the menu must let in."""
    states = [start]
    for event in book:
        test.assertIn(event, menu(states[-1]))
        states.append(step(states[-1], event)[0])
    return states


class WaitTest(unittest.TestCase):
    def check_bound(self, start, menu, template, step, bound):
        """Check all that point 71 says of a WaitBound, but that no job waits longer: its numbers show that."""
        self.assertIs(type(bound), WaitBound)
        wanted = [one for one, _ in explore(start, menu, step)]
        self.assertEqual((len(bound.shapes), set(bound.shapes)), (len(wanted), set(wanted)))
        firsts, ways = ways_by_hand(start, menu, template, step)
        numbers = {row[:2]: row[2] for row in bound.rows}
        self.assertEqual((len(bound.rows), set(numbers)), (len(ways), set(ways)))
        self.assertTrue(all(number >= 1 for number in numbers.values()))
        self.assertTrue(all(numbers[one] <= bound.hours for one in firsts))
        for one, behind in ways.items():
            for other, by_tick in behind:
                self.assertLessEqual(numbers[other], numbers[one] - (1 if by_tick else 0))
        if bound.name is None:
            self.assertEqual((bound.hours, bound.book, bound.rows), (0, (), ()))
            return
        states = run_book(self, start, menu, step, bound.book)
        came = max(at for at, event in enumerate(bound.book) if event[:2] == ("come", bound.name))
        self.assertEqual(bound.book[came][2], template)
        self.assertTrue(all(now[bound.name].began is None for now in states[came + 1:-1]))
        self.assertIsNotNone(states[-1][bound.name].began)
        self.assertEqual(bound.book[came:].count(TICK), bound.hours)

    def check_ring(self, start, menu, template, step, ring):
        """Check all that point 71 says of a WaitRing."""
        self.assertIs(type(ring), WaitRing)
        states = run_book(self, start, menu, step, ring.book)
        came = max(at for at, event in enumerate(ring.book) if event[:2] == ("come", ring.name))
        self.assertEqual(ring.book[came][2], template)
        states = states[came + 1:]
        further = run_book(self, states[-1], menu, step, ring.ring)
        for now in states + further:
            self.assertIsNone(now[ring.name].began)
        self.assertIn(TICK, ring.ring)
        self.assertEqual(shape(further[0]), shape(further[-1]))
        self.assertEqual(*[[job.name for job in now].index(ring.name) for now in (further[0], further[-1])])

    def test_the_example_of_the_document(self):
        bound = longest_wait(empty(), Menu("a", "b"), "a", basic_step)
        self.assertEqual(bound.hours, 2)
        self.assertTrue(bound.holds())
        self.check_bound(empty(), Menu("a", "b"), "a", basic_step, bound)
        menu = Menu("a", "b", many=3)
        ring = longest_wait(empty(), menu, "a", basic_step)
        self.assertFalse(ring.holds())
        self.check_ring(empty(), menu, "a", basic_step, ring)

    def test_kinds_and_notes(self):
        self.assertTrue(issubclass(WaitBound, Yes) and issubclass(WaitRing, No))
        bound = longest_wait(empty(), Menu("b"), "b", basic_step)
        self.assertEqual(bound.note(), ("wait", bound.hours, bound.name, bound.book, bound.shapes, bound.rows))
        self.assertEqual([type(item) for item in bound.note()], [str, int, str, tuple, tuple, tuple])
        ring = longest_wait(empty(), Menu("big"), "big", basic_step)
        self.assertEqual(ring.note(), ("ring", ring.name, ring.book, ring.ring))

    def test_a_job_that_never_waits(self):
        menu = Menu("a", many=1)
        bound = longest_wait(empty(), menu, "a", basic_step)
        self.assertEqual((bound.hours, bound.name, bound.book, bound.rows), (0, "x1", (("come", "x1", "a"),), ()))
        self.assertEqual(set(bound.shapes), {one for one, _ in explore(empty(), menu, basic_step)})
        # With rank and any a job b throws any other one out, but two of them wait for each other.
        self.assertEqual(longest_wait(empty(), Menu("a", "b", many=1), "b", basic_step).hours, 0)
        self.assertEqual(longest_wait(empty(), Menu("a", "b"), "b", basic_step).hours, 1)

    def test_a_job_that_waits(self):
        for words, menu, template, hours in (
                ("age first never free", Menu("a", "b"), "a", 2), ("age first never free", Menu("a", "b"), "b", 2),
                ("age first never free", Menu("a", many=3), "a", 4), ("age first never free", Menu("b", many=4), "b", 3),
                ("rank first never free", Menu("a", "b"), "b", 2), ("rank first any free", Menu("a", "two"), "a", 2)):
            bound = longest_wait(empty(words), menu, template, basic_step)
            self.assertEqual(bound.hours, hours, (words, menu.templates, template))
            self.check_bound(empty(words), menu, template, basic_step, bound)

    def test_what_was_there_before_counts_only_for_the_room(self):
        # Only jobs that came in the book wait for the answer; those of the state stand in their way.
        start = after(empty("age first never free"), ("come", "j1", "a"), ("come", "j2", "a"))
        bound = longest_wait(start, Menu("b", many=3), "b", basic_step)
        self.assertEqual(bound.hours, 4)
        self.check_bound(start, Menu("b", many=3), "b", basic_step, bound)
        # The job big of the state waits for ever, and is none of these.
        start = after(empty("age first never free"), ("come", "j1", "big"))
        bound = longest_wait(start, Menu("b", many=2), "b", basic_step)
        self.assertEqual(bound.hours, 0)
        self.check_bound(start, Menu("b", many=2), "b", basic_step, bound)

    def test_names_that_come_again(self):
        # The name x1 is free again when its job has left, so that the book tells it of several jobs.
        start = after(empty("age first never free"), ("come", "x2", "two"))
        bound = longest_wait(start, Menu("b"), "b", basic_step)
        self.check_bound(start, Menu("b"), "b", basic_step, bound)

    def test_a_template_that_cannot_come(self):
        start = after(empty("age first never free"), ("come", "j1", "big"))
        bound = longest_wait(start, Menu("a", many=1), "a", basic_step)
        self.assertEqual((bound.hours, bound.name, bound.book, bound.shapes, bound.rows), (0, None, (), (shape(start),), ()))
        self.assertTrue(bound.holds())

    def test_templates_that_do_not_exist(self):
        refuse(self, Unknown, "b", longest_wait, empty(), Menu("a"), "b", basic_step)
        refuse(self, Unknown, "a", longest_wait, empty(), Menu(), "a", basic_step)
        # The menu is asked first, the cluster by the step alone.
        refuse(self, Unknown, "b", longest_wait, empty(), Menu("strange"), "b", basic_step, most=1)
        refuse(self, Unknown, "strange", longest_wait, empty(), Menu("strange"), "strange", basic_step)
        refuse(self, Unknown, "strange", longest_wait, empty(), Menu("a", "strange"), "a", basic_step)
        full = after(empty("age first never free"), ("come", "j1", "big"))
        self.assertEqual(longest_wait(full, Menu("strange", many=1), "strange", basic_step).name, None)

    def test_errors_of_the_step(self):
        refuse(self, BadEvent, ("fail", "m1"), longest_wait, empty(), Menu("a", failures=1), "a", basic_step)

    def test_a_ring_in_which_the_job_cannot_begin_at_all(self):
        ring = longest_wait(empty(), Menu("big", many=1), "big", basic_step)
        self.assertEqual((ring.name, ring.book, ring.ring), ("x1", (("come", "x1", "big"),), (TICK,)))
        ring = longest_wait(empty("age first never free"), Menu("a", "big"), "big", basic_step)
        self.check_ring(empty("age first never free"), Menu("a", "big"), "big", basic_step, ring)
        # The other jobs of the menu are bounded all the same.
        self.assertEqual(longest_wait(empty("age first never free"), Menu("a", "big"), "a", basic_step).hours, 2)

    def test_a_ring_of_failures(self):
        menu = Menu("a", many=1, failures=1)
        self.check_ring(empty(), menu, "a", failing_step, longest_wait(empty(), menu, "a", failing_step))

    def test_drops_of_the_job_do_not_count(self):
        # The job could be dropped in each ring, but then it does not wait on.
        menu = Menu("b", drops=True)
        bound = longest_wait(empty("age first never free"), menu, "b", basic_step)
        self.assertEqual(bound.hours, 1)
        self.check_bound(empty("age first never free"), menu, "b", basic_step, bound)
        menu = Menu("big", drops=True)
        self.check_ring(empty(), menu, "big", basic_step, longest_wait(empty(), menu, "big", basic_step))

    def test_early(self):
        menu = Menu("a", early=True)
        bound = longest_wait(empty("age first never free"), menu, "a", basic_step)
        self.assertEqual(bound.hours, 2)
        self.check_bound(empty("age first never free"), menu, "a", basic_step, bound)

    def test_too_wide(self):
        start, menu = empty("age first never free"), Menu("a", many=3)
        bound = longest_wait(start, menu, "a", basic_step)
        many = max(len(bound.shapes), len(bound.rows))
        self.assertNotEqual(len(bound.shapes), len(bound.rows))
        self.assertEqual(longest_wait(start, menu, "a", basic_step, most=many).note(), bound.note())
        for most in (many - 1, min(len(bound.shapes), len(bound.rows)), 1):
            refuse(self, TooWide, most, longest_wait, start, menu, "a", basic_step, most=most)

    def test_triples_are_counted_by_themselves(self):
        # There are more triples than shapes where several jobs of the template wait in one state.
        start, menu = after(empty("age first never free"), ("come", "j1", "big")), Menu("big", many=4)
        refuse(self, TooWide, 5, longest_wait, start, menu, "big", basic_step, most=5)
        self.assertEqual(len(list(explore(start, menu, basic_step))), 4)
        self.check_ring(start, menu, "big", basic_step, longest_wait(start, menu, "big", basic_step, most=6))

    def test_the_greatest_number_is_1000_if_none_is_given(self):
        wide = read_cluster(
            "resources core\nmachine m1 zone y has 9\ngroup g under - weight 1 floor 0\n"
            "template a group g rank 1 every 0 stage 1 of 1 for 24")
        refuse(self, TooWide, 1000, longest_wait, State.empty(wide, Policy.read("age first never free")), Menu("a", many=4), "a", basic_step)

    def test_nothing_changes(self):
        start, menu = after(empty(), ("come", "j1", "a")), Menu("a", "b")
        before = start.text()
        longest_wait(start, menu, "b", basic_step)
        self.assertEqual((start.text(), menu.templates, menu.many), (before, ("a", "b"), 2))

    def test_against_all_books_of_some_length(self):
        dice = random.Random(71)
        bounds = rings = 0
        while bounds < 40 or rings < 10:
            start = State.empty(random_cluster(dice), dice.choice(POLICIES))
            names = [one.name for one in start.cluster.templates]
            menu = Menu(*dice.sample(names, dice.randrange(1, 3)), many=dice.randrange(1, 4), failures=dice.choice([0, 0, 0, 1]),
                        early=dice.random() < 0.3, drops=dice.random() < 0.3)
            template = dice.choice(menu.templates)
            try:
                found = longest_wait(start, menu, template, failing_step, most=80)
            except TooWide:
                continue
            if found.holds():
                bounds += 1
                self.check_bound(start, menu, template, failing_step, found)
                self.assertLessEqual(slow.longest_waits(start, menu, template, failing_step, 5), found.hours)
                if len(found.book) <= 5:
                    self.assertEqual(slow.longest_waits(start, menu, template, failing_step, len(found.book)), found.hours)
            else:
                rings += 1
                self.check_ring(start, menu, template, failing_step, found)


if __name__ == "__main__":
    unittest.main()
