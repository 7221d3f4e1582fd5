"""Points 72 to 74: two runs with the same events."""

import random
import unittest

from gangbooks.clustertext import read_cluster
from gangbooks.errors import BadEvent, TooWide, Unknown
from gangbooks.failing import failing_step
from gangbooks.hours import basic_step, change
from gangbooks.menus import Menu
from gangbooks.notes import No, Yes
from gangbooks.pairs import PairBook, PairTable, alike, harmless, never_later
from gangbooks.policy import Policy
from gangbooks.settle import settle
from gangbooks.shapes import shape
from gangbooks.state import State
from tests import slow
from tests.support import refuse
from tests.worlds import CALM, POLICIES, last_state, perform

TICK = ("tick",)
ONE = read_cluster(
    "resources core\nmachine m1 zone z has 2\ngroup g under - weight 1 floor 0\n"
    "template a group g rank 1 every 0 stage 1 of 2 for 2\n"
    "template b group g rank 5 every 0 stage 1 of 2 for 1\n"
    "template s group g rank 2 every 0 stage 1 of 1 for 1\n"
    "template big group g rank 9 every 0 stage 2 of 2 for 1")
TWO = read_cluster(
    "resources core\nmachine m1 zone z has 2\nmachine m2 zone z has 3\ngroup g under - weight 1 floor 0\n"
    "template a group g rank 1 every 0 stage 1 of 2 for 2\n"
    "template wide group g rank 1 every 0 stage 1 of 3 for 2")


def empty(words, cluster=ONE):
    return State.empty(cluster, Policy.read(words))


def after(start, *events):
    """The state behind some events."""
    for event in events:
        start, _ = perform(start, event)
    return start


def row_of(left, right):
    """The row of point 73 for two states."""
    names = [job.name for job in right]
    return (shape(left), shape(right), tuple(names.index(job.name) if job.name in names else -1 for job in left),
            tuple(int(job.began is not None) for job in left), tuple(int(job.began is not None) for job in right))


def rows_by_hand(left, right, menu, step):
    """All rows that books lead to from two states."""
    rows, waiting = set(), [(left, right)]
    while waiting:
        one, other = waiting.pop()
        if row_of(one, other) not in rows:
            rows.add(row_of(one, other))
            waiting += [(step(one, event)[0], step(other, event)[0]) for event in slow.both(menu, one, other)]
    return rows


class PairTest(unittest.TestCase):
    def ask(self, relation, state, other, menu, step=basic_step, **most):
        if relation == "harmless":
            return harmless(state, other, menu, step, **most)
        call = alike if relation == "alike" else never_later
        return call(state, Policy.read(other) if isinstance(other, str) else other, menu, step, **most)

    def holds(self, relation, state, other, menu, step=basic_step, **most):
        table = self.ask(relation, state, other, menu, step, **most)
        self.assertIs(type(table), PairTable)
        self.assertEqual(table.relation, relation)
        policy = Policy.read(other) if isinstance(other, str) else other
        left, right = slow.two_beginnings(relation, state, policy, step)
        self.assertEqual(len(set(table.rows)), len(table.rows))
        self.assertEqual(set(table.rows), rows_by_hand(left[0], right[0], menu, step))
        return table

    def fails(self, relation, state, other, menu, book, step=basic_step, **most):
        found = self.ask(relation, state, other, menu, step, **most)
        self.assertIs(type(found), PairBook)
        self.assertEqual((found.relation, found.book), (relation, book))

    def test_kinds_and_notes(self):
        self.assertTrue(issubclass(PairTable, Yes) and issubclass(PairBook, No))
        table = alike(empty("age first never free"), Policy.read("age tight never free"), Menu("a"), basic_step)
        self.assertEqual(table.note(), ("pairs", "alike", table.rows))
        found = never_later(empty("rank first never free"), Policy.read("age first never free"), Menu("a", "b", many=3), basic_step)
        self.assertEqual(found.note(), ("parted", "never-later", found.book))

    def test_the_same_policy(self):
        for words in ("rank first any free", "age tight owed strict", "short loose never hold", "share first any hold"):
            start = after(empty(words), ("come", "j1", "a"), ("come", "j2", "s"))
            for relation in ("alike", "never-later"):
                table = self.holds(relation, start, words, Menu("b", "s", many=3))
                self.assertEqual([row[0] for row in table.rows], [row[1] for row in table.rows])
                self.assertEqual([row[2] for row in table.rows], [tuple(range(len(row[0][5]))) for row in table.rows])

    def test_hold_in_the_place_of_free(self):
        # With evictions there are no holds; without them a hold may keep a small job back.
        self.holds("alike", empty("rank first any free"), "rank first any hold", Menu("a", "b", "s", early=True))
        self.holds("never-later", empty("rank first any hold"), "rank first any free", Menu("a", "s", many=3))
        for relation in ("alike", "never-later"):
            self.fails(relation, after(empty("age first never free"), ("come", "j1", "s")), "age first never strict", Menu("a", "s", many=3),
                       (("come", "x1", "a"), ("come", "x2", "s")))
        self.holds("alike", empty("age first never free"), "age first never hold", Menu("a", "s", many=3))

    def test_the_first_row(self):
        start = after(empty("age first never free"), ("come", "j1", "a"), ("come", "j2", "big"), TICK)
        table = self.holds("alike", start, "rank tight never free", Menu())
        self.assertEqual(table.rows[0], (shape(start), shape(change(start, Policy.read("rank tight never free"))[0]), (0, 1), (1, 0), (1, 0)))
        self.assertIn((), [row[2] for row in self.holds("alike", empty("age first never free"), "rank first never free", Menu("a", many=1)).rows])

    def test_a_menu_without_events_but_the_tick(self):
        table = self.holds("alike", empty("age first never free"), "rank first any strict", Menu())
        self.assertEqual(len(table.rows), 1)
        self.holds("harmless", after(empty("age first never free"), ("come", "j1", "a")), ("early", "j1"), Menu())

    def test_alike(self):
        # The order only matters when two jobs wait for one machine.
        self.holds("alike", empty("age first never free"), "rank first never free", Menu("a", "b", many=2))
        self.fails("alike", empty("age first never free"), "rank first never free", Menu("a", "b", many=3),
                   (("come", "x1", "b"), ("come", "x2", "a"), ("come", "x3", "b"), TICK))
        self.fails("alike", empty("rank first any free"), "rank first never free", Menu("a", "b"), (("come", "x1", "a"), ("come", "x2", "b")))

    def test_places_do_not_count(self):
        start = empty("age first never free", TWO)
        self.holds("alike", start, "age loose never free", Menu("a"))
        # But they matter for the room of later jobs.
        self.fails("alike", start, "age loose never free", Menu("a", "wide"), (("come", "x1", "a"), ("come", "x2", "wide")))

    def parted_by(self, deeds, others):
        """Tell whether a step that gives these deeds in the left run and those in the right one parts the runs."""
        left = empty("age first never free")

        def step(state, event):
            return state, list(deeds if state.policy == left.policy else others)

        found = self.ask("alike", left, "rank first never free", Menu(), step)
        self.assertEqual(found.holds() or found.book == (TICK,), True)
        return not found.holds()

    def test_the_words_that_count(self):
        for word, more in (("out", (0,)), ("lost", (0,)), ("start", ((1,),)), ("stage", (1,)), ("end", (0, 0, 0)), ("drop", (0, 0, 0)), ("broken", ())):
            deed = (word, "j", *more)
            self.assertTrue(self.parted_by([deed], []), word)
            self.assertTrue(self.parted_by([], [deed]), word)
            self.assertTrue(self.parted_by([deed], [deed, deed]), word)
            self.assertTrue(self.parted_by([deed], [(word, "k", *more)]), word)
            self.assertFalse(self.parted_by([deed], [deed]), word)
        for deed in (("plan", "j", ()), ("move", "j", (1,)), ("away", 0), ("back", 0), ("fail", 0), ("repair", 0), ("shut", 0), ("reopen", 0)):
            self.assertFalse(self.parted_by([deed], []), deed)
            self.assertFalse(self.parted_by([], [deed, deed]), deed)

    def test_the_order_of_the_words_of_each_job(self):
        out, start, other = ("out", "j", 2), ("start", "j", (1,)), ("start", "k", (1,))
        self.assertTrue(self.parted_by([out, start], [start, out]))
        self.assertTrue(self.parted_by([out, start], [start]))
        self.assertTrue(self.parted_by([out, other], [("out", "k", 2), start]))
        # Only each job's own words have an order, and neither places nor numbers count.
        self.assertFalse(self.parted_by([out, other, start], [other, ("out", "j", 0), ("start", "j", (5,))]))
        self.assertFalse(self.parted_by([("end", "j", 3, 1, 0)], [("end", "j", 4, 0, 0)]))

    def test_empty_books(self):
        start = after(empty("rank first never free"), ("come", "j1", "a"), ("come", "j2", "b"))
        self.fails("alike", start, "rank first any free", Menu("strange"), ())
        # A state that was not settled by its own policy: what its settling starts counts.
        raw = State(ONE, Policy.read("rank first any free"), 0, (), (), (), start.jobs)
        self.assertEqual([deed[:2] for deed in settle(raw).deeds], [("out", "j1"), ("start", "j2")])
        self.fails("never-later", raw, "age first never free", Menu("strange"), ())
        self.holds("alike", raw, "rank first any hold", Menu("a"))

    def test_never_later(self):
        start = after(empty("rank first never free"), ("come", "j1", "a"), ("come", "j2", "b"))
        self.holds("never-later", start, "rank first any free", Menu())
        self.fails("never-later", empty("rank first any free"), "rank first never free", Menu("a", "b"), (("come", "x1", "a"), ("come", "x2", "b")))
        # Earlier is not later, but the other way round it is.
        waits = after(empty("age first never free"), ("come", "j1", "a"), ("come", "j2", "a"), ("come", "j3", "b"))
        self.fails("never-later", waits, "rank first never free", Menu(), (TICK, TICK))
        self.fails("never-later", change(waits, Policy.read("rank first never free"))[0], "age first never free", Menu(), (TICK, TICK))

    def test_harmless(self):
        start = after(empty("age first never free"), ("come", "j1", "a"), ("come", "j2", "b"))
        self.holds("harmless", start, ("early", "j1"), Menu("a"))
        self.holds("harmless", start, ("drop", "j2"), Menu())
        self.holds("harmless", start, ("come", "j3", "b"), Menu())
        self.fails("harmless", empty("age first never free"), ("come", "j3", "b"), Menu("b"), (("come", "x1", "b"),))
        # A job that is thrown out has begun already, but one that comes then waits.
        thrown = after(empty("rank first any free"), ("come", "j2", "s"))
        self.holds("harmless", thrown, ("come", "j3", "b"), Menu("s"))
        self.fails("harmless", thrown, ("come", "j3", "b"), Menu("s", many=3), (("come", "x1", "s"),))

    def test_harmless_with_an_event_that_shows_it_at_once(self):
        # A job that has begun stays begun when it is thrown out, so that only another step can undo a beginning.
        start = after(empty("age first never free"), ("come", "j1", "a"))

        def forget(state, event):
            return empty("age first never free") if event == ("forget",) else state, []

        def restart(state, event):
            return after(empty("age first never free"), ("come", "j0", "a"), ("come", "j1", "b")), []

        self.holds("harmless", start, ("forget",), Menu(), forget)
        self.fails("harmless", start, ("restart",), Menu("strange"), (), restart)

    def test_an_event_that_is_refused(self):
        start = empty("age first never free")
        refuse(self, Unknown, "j1", harmless, start, ("drop", "j1"), Menu("a"), basic_step)
        refuse(self, Unknown, "strange", harmless, start, ("come", "j1", "strange"), Menu("a"), basic_step, most=1)
        refuse(self, BadEvent, ("fail", "m1"), harmless, start, ("fail", "m1"), Menu("a"), basic_step)

    def test_harmless_with_failures(self):
        start = after(empty("age first never free", TWO), ("come", "j1", "a"))
        self.fails("harmless", start, ("fail", "m1"), Menu("wide", failures=1), (("come", "x1", "wide"),), failing_step)
        down = after(start, ("fail", "m1"))
        self.holds("harmless", down, ("repair", "m1"), Menu("wide", failures=1), failing_step)

    def test_names_of_comings(self):
        # The left state has x1, the right one x1 and x2; both take the same name, which neither has.
        start = after(empty("age first never free"), ("come", "x1", "big"))
        table = self.holds("harmless", start, ("come", "x2", "big"), Menu("big", many=3))
        self.assertEqual({(row[2], len(row[1][5])) for row in table.rows}, {((0,), 2), ((0, 2), 3)})
        found = harmless(empty("age first never free"), ("come", "x1", "a"), Menu("a"), basic_step)
        self.assertEqual(found.book, (("come", "x2", "a"),))
        found = harmless(empty("age first never free"), ("come", "x2", "a"), Menu("a"), basic_step)
        self.assertEqual(found.book, (("come", "x1", "a"),))

    def test_events_that_the_menu_does_not_let_in_both(self):
        # With one job at most nothing can come in the right run, so that it cannot come in the book.
        table = self.holds("harmless", empty("age first never free"), ("come", "j1", "big"), Menu("a", many=1))
        self.assertEqual(len(table.rows), 1)
        # An event early of a job that runs in one state only is none of the book.
        start = after(empty("age first never free"), ("come", "j1", "a"), ("come", "j2", "b"))
        table = self.holds("harmless", start, ("early", "j1"), Menu(early=True, drops=True))
        self.assertEqual(table.rows[0][2], (-1, 0))

    def test_the_order_of_the_events(self):
        # Of the shortest books the first one is found, in the order of the left menu.
        start = empty("age first never free")
        for templates, first in ((("a", "b"), "a"), (("b", "a"), "b")):
            self.fails("harmless", start, ("come", "j1", "b"), Menu(*templates), (("come", "x1", first),))

    def test_too_wide(self):
        start, menu = empty("age first never free"), Menu("a", "b")
        for relation, other in (("alike", "rank first never free"), ("never-later", "rank tight never hold"), ("harmless", ("policy", "rank", "first", "never", "free"))):
            many = len(self.holds(relation, start, other, menu).rows)
            self.assertGreater(many, 8)
            self.holds(relation, start, other, menu, most=many)
            for most in (many - 1, 3, 1):
                refuse(self, TooWide, most, self.ask, relation, start, other, menu, most=most)
        self.fails("harmless", start, ("come", "j1", "b"), menu, (("come", "x1", "a"),), most=1)

    def test_the_greatest_number_is_1000_if_none_is_given(self):
        wide = read_cluster(
            "resources core\nmachine m1 zone y has 9\ngroup g under - weight 1 floor 0\n"
            "template a group g rank 1 every 0 stage 1 of 1 for 24")
        start = State.empty(wide, Policy.read("age first never free"))
        for relation, other in (("alike", "rank first never free"), ("never-later", "rank first never free"), ("harmless", TICK)):
            refuse(self, TooWide, 1000, self.ask, relation, start, other, Menu("a", many=4))

    def test_errors_of_the_step(self):
        start = empty("age first never free")
        for relation, other in (("alike", "rank first never free"), ("never-later", "rank first never free"), ("harmless", TICK)):
            refuse(self, Unknown, "strange", self.ask, relation, start, other, Menu("strange"))
            refuse(self, BadEvent, ("fail", "m1"), self.ask, relation, start, other, Menu(failures=1))

    def test_nothing_changes(self):
        start = after(empty("rank first any free"), ("come", "j1", "a"), ("come", "j2", "b"))
        before = start.text()
        for relation, other in (("alike", "age first never free"), ("never-later", "rank first never free"), ("harmless", ("drop", "j1"))):
            self.ask(relation, start, other, Menu("a", "s"))
        self.assertEqual(start.text(), before)

    def test_against_all_books_of_some_length(self):
        dice = random.Random(72)
        answers = {}
        while min(answers.get((relation, holds), 0) for relation in ("alike", "never-later", "harmless") for holds in (True, False)) < 5:
            start = last_state(dice, 6, CALM)
            names = [one.name for one in start.cluster.templates]
            menu = Menu(*dice.sample(names, dice.randrange(1, 3)), many=min(max(1, len(start) + dice.randrange(2)), 12),
                        failures=dice.choice([0, 0, 0, 1]), early=dice.random() < 0.3, drops=dice.random() < 0.3)
            relation = dice.choice(["alike", "never-later", "harmless"])
            other = dice.choice(POLICIES)
            if relation == "harmless":
                other = dice.choice([("come", "new", names[0]), ("early", "none"), TICK] + [("drop", job.name) for job in start])
            try:
                found = self.ask(relation, start, other, menu, failing_step, most=60)
            except (TooWide, Unknown):
                continue
            kind = (relation, found.holds())
            if answers.get(kind, 0) < 10:
                left, right = slow.two_beginnings(relation, start, other, failing_step)
                if found.holds():
                    self.holds(relation, start, other, menu, failing_step)
                    self.assertIsNone(slow.parted_at(relation, left, right, menu, failing_step, 4))
                elif len(found.book) <= 5:
                    self.assertEqual(slow.parted_at(relation, left, right, menu, failing_step, 5), len(found.book))
            answers[kind] = answers.get(kind, 0) + 1


if __name__ == "__main__":
    unittest.main()
