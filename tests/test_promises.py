"""Points 69 and 70: promises, and whether they are kept in all books of a menu."""

import random
import unittest

from gangbooks.clustertext import read_cluster
from gangbooks.errors import BadEvent, TooWide, Unknown
from gangbooks.failing import failing_step
from gangbooks.hours import basic_step
from gangbooks.menus import Menu
from gangbooks.notes import Certificate, No, Yes
from gangbooks.policy import Policy
from gangbooks.promises import Begins, Broken, Ends, Floor, Kept, Promise, Reserved, Stays, Verdict, judge
from gangbooks.shapes import shape
from gangbooks.state import State
from tests import slow
from tests.support import refuse
from tests.worlds import ROUGH, last_state, perform

TICK = ("tick",)
ONE = read_cluster(
    "resources core\nmachine m1 zone z has 2\ngroup g under - weight 1 floor 0\n"
    "template a group g rank 1 every 0 stage 1 of 2 for 3\n"
    "template b group g rank 5 every 0 stage 1 of 2 for 1\n"
    "template big group g rank 0 every 0 stage 2 of 2 for 1")
TWO = read_cluster(
    "resources core\nmachine m1 zone z has 2\nmachine m2 zone z has 2\ngroup g under - weight 1 floor 0\n"
    "template a group g rank 1 every 0 stage 1 of 2 for 2\n"
    "template pair group g rank 1 every 0 stage 2 of 2 for 2")
FLOORS = read_cluster(
    "resources core\nmachine m1 zone z has 4\n"
    "group lab under - weight 1 floor 2\ngroup one under lab weight 1 floor 1\ngroup two under lab weight 1 floor 1\n"
    "group pub under - weight 1 floor 0\n"
    "template a group one rank 1 every 0 stage 1 of 2 for 2\n"
    "template c group two rank 1 every 0 stage 1 of 3 for 2\n"
    "template p group pub rank 9 every 0 stage 1 of 4 for 2")


def after(cluster, words, *events, step=perform):
    """The state behind some events from the empty state on."""
    now = State.empty(cluster, Policy.read(words))
    for event in events:
        now, _ = step(now, event)
    return now


def one_waits(words="age first never free"):
    """The state in which j1 runs for 3 hours and j2 waits for it."""
    return after(ONE, words, ("come", "j1", "a"), ("come", "j2", "b"))


def open_rows(start, menu, words, step):
    """The rows of a Kept, found from the last state first."""
    ticks = words[2] if len(words) > 2 else -1
    rows, waiting = set(), [(start, ticks)] if slow.can_be_broken(words, start) else []
    while waiting:
        now, left = waiting.pop()
        index = -1 if words[0] == "floor" else [job.name for job in now].index(words[1])
        if (shape(now), index, left) not in rows:
            rows.add((shape(now), index, left))
            for event in menu(now):
                new, deeds = step(now, event)
                rest = left - 1 if event == TICK and left > 0 else left
                assert not slow.is_broken(words, rest, now, new, deeds)
                if slow.can_be_broken(words, new):
                    waiting.append((new, rest))
    return rows


class PromiseTest(unittest.TestCase):
    def test_words(self):
        for promise, words in ((Begins("j1", 0), ("begins", "j1", 0)), (Ends("x12", 7), ("ends", "x12", 7)), (Stays("a"), ("stays", "a")),
                               (Reserved("r"), ("reserved", "r")), (Floor("lab"), ("floor", "lab"))):
            self.assertEqual(promise.words, words)
            self.assertIsInstance(promise, Promise)
        self.assertEqual([made.__mro__[1] for made in (Begins, Ends, Stays, Reserved, Floor)], [Promise] * 5)

    def test_kinds(self):
        self.assertTrue(issubclass(Verdict, Certificate))
        self.assertTrue(issubclass(Kept, Verdict) and issubclass(Kept, Yes))
        self.assertTrue(issubclass(Broken, Verdict) and issubclass(Broken, No))
        self.assertTrue(Kept(("stays", "j"), ()).holds())
        self.assertFalse(Broken(("stays", "j"), ()).holds())

    def test_lines(self):
        self.assertEqual(Kept(("begins", "j1", 12), ()).lines(), ["kept begins j1 12"])
        self.assertEqual(Kept(("floor", "lab"), ((("shape",), -1, -1),)).lines(), ["kept floor lab"])
        book = (("come", "x1", "a"), TICK, ("policy", "age", "first", "any", "free"), ("close", "m1", 3, 10))
        self.assertEqual(Broken(("ends", "j", 0), book).lines(), [
            "broken ends j 0", "  come x1 a", "  tick", "  policy age first any free", "  close m1 3 10"])
        self.assertEqual(Broken(("stays", "j"), ()).lines(), ["broken stays j"])
        self.assertEqual(Verdict.lines(Broken(("stays", "j"), book)), ["broken stays j"])
        for made in (Kept, Broken, Verdict):
            self.assertIn("lines", vars(made))


class JudgeTest(unittest.TestCase):
    def kept(self, start, menu, promise, step=basic_step, **most):
        found = judge(start, menu, promise, step, **most)
        self.assertIs(type(found), Kept)
        self.assertEqual(found.words, promise.words)
        self.assertEqual(len(set(found.rows)), len(found.rows))
        self.assertEqual(set(found.rows), open_rows(start, menu, promise.words, step))
        return found

    def broken(self, start, menu, promise, book, step=basic_step, **most):
        found = judge(start, menu, promise, step, **most)
        self.assertIs(type(found), Broken)
        self.assertEqual((found.words, found.book), (promise.words, book))

    def test_begins(self):
        start = one_waits()
        shapes = [shape(now) for now in (start, after_ticks(start, 1), after_ticks(start, 2))]
        found = self.kept(start, Menu(), Begins("j2", 3))
        self.assertEqual(found.rows, tuple((shapes[at], 1, 3 - at) for at in range(3)))
        self.assertEqual(len(self.kept(start, Menu(), Begins("j2", 9)).rows), 3)
        self.broken(start, Menu(), Begins("j2", 2), (TICK, TICK))
        self.broken(start, Menu(), Begins("j2", 1), (TICK,))

    def test_begins_is_over_when_the_job_has_begun(self):
        self.assertEqual(self.kept(one_waits(), Menu("b"), Begins("j1", 5)).rows, ())
        # A job that was thrown out waits, but it has begun.
        start = after(ONE, "rank first any free", ("come", "j1", "a"), ("come", "j2", "b"))
        self.assertIsNone(start["j1"].place)
        self.assertEqual(self.kept(start, Menu("b"), Begins("j1", 1)).rows, ())
        self.broken(start, Menu("b"), Ends("j1", 1), (TICK,))

    def test_ends(self):
        start = one_waits()
        self.assertEqual([row[1:] for row in self.kept(start, Menu(), Ends("j1", 3)).rows], [(0, 3), (0, 2), (0, 1)])
        self.broken(start, Menu(), Ends("j1", 2), (TICK, TICK))
        self.assertEqual([row[1:] for row in self.kept(start, Menu(), Ends("j2", 4)).rows], [(1, 4), (1, 3), (1, 2), (0, 1)])
        self.broken(start, Menu(), Ends("j2", 3), (TICK,) * 3)

    def test_no_hours(self):
        start = one_waits()
        for promise in (Begins("j2", 0), Ends("j1", 0), Ends("j2", 0)):
            self.broken(start, Menu("a", "strange"), promise, (), most=1)
        self.assertEqual(self.kept(start, Menu("a"), Begins("j1", 0)).rows, ())

    def test_drops_and_early(self):
        start = one_waits()
        # A job that is dropped has left.
        self.kept(start, Menu(drops=True), Begins("j2", 3))
        self.broken(start, Menu(drops=True), Begins("j2", 2), (TICK, TICK))
        self.kept(start, Menu(early=True), Ends("j1", 3))

    def test_shortest_books(self):
        # An event may make a job wait longer than the ticks alone.
        start = after(ONE, "rank first never free", ("come", "j1", "b"), ("come", "j2", "a"))
        self.kept(start, Menu(), Begins("j2", 1))
        # With two jobs at most no third one can come.
        self.kept(start, Menu("b"), Begins("j2", 1))
        self.broken(start, Menu("b", many=3), Begins("j2", 1), (("come", "x1", "b"), TICK))
        self.broken(start, Menu("b", many=3), Begins("j2", 2), (("come", "x1", "b"), TICK, ("come", "x2", "b"), TICK))

    def test_stays(self):
        start = after(ONE, "rank first any free", ("come", "j1", "a"))
        self.broken(start, Menu("b"), Stays("j1"), (("come", "x1", "b"),))
        self.broken(start, Menu("a", "big", "b"), Stays("j1"), (("come", "x1", "b"),))
        found = self.kept(start, Menu("a", "big"), Stays("j1"))
        self.assertEqual({row[2] for row in found.rows}, {-1})
        self.kept(after(ONE, "rank first never free", ("come", "j1", "a")), Menu("b"), Stays("j1"))

    def test_stays_with_failures(self):
        start = after(ONE, "age first never free", ("come", "j1", "a"))
        self.kept(start, Menu("b"), Stays("j1"), failing_step)
        self.broken(start, Menu("b", failures=1), Stays("j1"), (("fail", "m1"),), failing_step)
        waiting = after(ONE, "age first never free", ("come", "j1", "b"), ("come", "j2", "a"))
        self.broken(waiting, Menu(failures=1), Stays("j2"), (TICK, ("fail", "m1")), failing_step)
        firm = after(ONE, "age first never free", ("reserve", "r1", "a", 1))
        self.broken(firm, Menu(failures=1), Stays("r1"), (TICK, ("fail", "m1")), failing_step)

    def test_reserved(self):
        start = after(TWO, "age first never free", ("reserve", "r1", "a", 2))
        self.kept(start, Menu("a"), Reserved("r1"))
        self.kept(start, Menu(failures=1), Reserved("r1"), failing_step)
        self.broken(start, Menu(failures=2), Reserved("r1"), (("fail", "m1"), ("fail", "m2")), failing_step)
        wide = after(TWO, "age first never free", ("reserve", "r1", "pair", 2))
        self.broken(wide, Menu(failures=1), Reserved("r1"), (("fail", "m1"),), failing_step)

    def test_reserved_for_a_job_that_is_thrown_out_or_loose(self):
        # The job runs, so that a failure throws it out, without a deed broken; it can still be broken then.
        start = after(ONE, "age first never free", ("reserve", "r1", "a", 0))
        found = self.kept(start, Menu(failures=1), Reserved("r1"), failing_step)
        self.assertIn(shape(perform(start, ("fail", "m1"))[0]), [row[0] for row in found.rows])
        loose = after(ONE, "age first never free", ("come", "j1", "a"))
        self.assertEqual([row[1:] for row in self.kept(loose, Menu(), Reserved("j1")).rows], [(0, -1)] * 3)
        never = after(ONE, "age first never free", ("come", "j1", "big"))
        self.assertEqual(self.kept(never, Menu(), Reserved("j1")).rows, ((shape(never), 0, -1),))

    def test_floor(self):
        start = after(FLOORS, "share first never free", ("come", "j1", "p"))
        self.broken(start, Menu("a"), Floor("lab"), (("come", "x1", "a"),))
        self.broken(start, Menu("c", "a"), Floor("lab"), (("come", "x1", "a"),))
        # A job of three cores is not owed by a floor of two, and the floor of the group pub is nought.
        found = self.kept(start, Menu("c", "p"), Floor("lab"))
        self.assertEqual({row[1:] for row in found.rows}, {(-1, -1)})
        self.kept(start, Menu("a", "c"), Floor("pub"))
        self.kept(after(FLOORS, "share first owed free", ("come", "j1", "p")), Menu("a", "p"), Floor("lab"))

    def test_floor_that_is_broken_at_once(self):
        start = after(FLOORS, "share first never free", ("come", "j1", "p"), ("come", "j2", "a"))
        self.broken(start, Menu("strange"), Floor("lab"), ())
        # The loose jobs that run use the floor up; a firm job does not, and none of those that wait.
        used = after(FLOORS, "share first never free", ("come", "j1", "a"), ("come", "j2", "c"))
        self.assertEqual([job.place for job in used], [(1,), None])
        self.kept(used, Menu(), Floor("lab"))
        firm = after(FLOORS, "share first never free", ("reserve", "r1", "c", 0), ("come", "j2", "a"))
        self.broken(firm, Menu(), Floor("lab"), ())

    def test_a_job_that_has_left_and_whose_name_came_again(self):
        start = after(ONE, "age first never free", ("come", "x1", "b"))
        self.kept(start, Menu("a", "b"), Ends("x1", 1))
        self.kept(start, Menu("a", "b"), Ends("x1", 2))
        found = self.kept(start, Menu("a", "b", failures=1), Reserved("x1"), failing_step)
        self.assertEqual({row[1] for row in found.rows}, {0})
        calm = after(ONE, "rank first any free", ("come", "x1", "b"))
        # The second x1 is of template a and is thrown out by any b; the first one never is.
        self.kept(calm, Menu("a", "b"), Stays("x1"))
        again = after(ONE, "rank first any free", ("come", "x1", "a"))
        self.broken(again, Menu("b"), Stays("x1"), (("come", "x2", "b"),))

    def test_strange_jobs_and_groups(self):
        start = one_waits()
        for promise in (Begins("j3", 0), Begins("a", 5), Ends("j12", 1), Stays("x1"), Reserved("g")):
            refuse(self, Unknown, promise.words[1], judge, start, Menu("strange"), promise, basic_step, most=1)
        left = after_ticks(start, 3)
        refuse(self, Unknown, "j1", judge, left, Menu(), Stays("j1"), basic_step)
        lab = State.empty(FLOORS, Policy.read("age first never free"))
        for group in ("one", "two", "strange", "a", "m1"):
            refuse(self, Unknown, group, judge, lab, Menu("a"), Floor(group), basic_step)

    def test_too_wide(self):
        start = one_waits("rank first any free")
        menu = Menu("a", "b", many=3, drops=True)
        for promise in (Reserved("j1"), Floor("g"), Begins("j1", 4), Ends("j2", 1)):
            many = len(self.kept(start, menu, promise).rows)
            self.assertEqual(many > 10, promise.words[0] in ("reserved", "floor"))
            self.kept(start, menu, promise, most=many or 1)
            for most in [most for most in (many - 1, many // 2, 1) if 0 < most < many]:
                refuse(self, TooWide, most, judge, start, menu, promise, basic_step, most=most)
        self.assertEqual(self.kept(start, menu, Begins("j2", 1), most=1).rows, ())

    def test_the_greatest_number_is_1000_if_none_is_given(self):
        wide = read_cluster(
            "resources core\nmachine m1 zone y has 9\ngroup g under - weight 1 floor 0\n"
            "template a group g rank 1 every 0 stage 1 of 1 for 24")
        start = after(wide, "age first never free", ("come", "j1", "a"))
        refuse(self, TooWide, 1000, judge, start, Menu("a", many=4), Stays("j1"), basic_step)

    def test_the_answer_no_may_be_found_before(self):
        start = after(ONE, "rank first any free", ("come", "j1", "a"))
        self.broken(start, Menu("b"), Stays("j1"), (("come", "x1", "b"),), most=1)
        refuse(self, TooWide, 1, judge, start, Menu("a", "b"), Stays("j1"), basic_step, most=1)
        self.broken(start, Menu("a", "b"), Stays("j1"), (("come", "x1", "b"),), most=2)

    def test_errors_of_the_step(self):
        start = one_waits()
        refuse(self, Unknown, "strange", judge, start, Menu("strange", many=3), Stays("j1"), basic_step)
        refuse(self, BadEvent, ("fail", "m1"), judge, start, Menu(failures=1), Stays("j1"), basic_step)
        # The job has begun, so that no event has to be performed.
        self.assertEqual(judge(start, Menu("strange", many=3), Begins("j1", 3), basic_step).rows, ())

    def test_nothing_changes(self):
        start = one_waits("rank first any free")
        menu = Menu("a", "b")
        before = start.text()
        judge(start, menu, Stays("j1"), basic_step)
        self.assertEqual(start.text(), before)
        self.assertEqual((menu.templates, menu.many), (("a", "b"), 2))

    def test_notes(self):
        self.assertEqual(judge(one_waits(), Menu(), Begins("j2", 1), basic_step).note(), ("broken", ("begins", "j2", 1), (TICK,)))
        found = judge(one_waits(), Menu(), Stays("j1"), basic_step)
        self.assertEqual(found.note(), ("kept", ("stays", "j1"), found.rows))

    def test_against_all_books_of_some_length(self):
        dice = random.Random(70)
        answers = {}
        while min(answers.get((word, holds), 0) for word in ("begins", "ends", "stays", "floor") for holds in (True, False)) < 3:
            start = last_state(dice, 8, ROUGH)
            names = [job.name for job in start] or ["none"]
            menu = Menu(*[one.name for one in start.cluster.templates][:dice.randrange(3)], many=min(len(start) + dice.randrange(2) or 1, 12),
                        failures=dice.choice([0, 0, 1]), early=dice.random() < 0.4, drops=dice.random() < 0.4)
            promise = dice.choice([Begins(dice.choice(names), dice.randrange(4)), Ends(dice.choice(names), dice.randrange(5)),
                                   Stays(dice.choice(names)), Reserved(dice.choice(names)), Floor("top"), Floor("three")])
            if promise.words[1] == "none":
                continue
            try:
                found = judge(start, menu, promise, failing_step, most=60)
            except TooWide:
                continue
            kind = (promise.words[0], found.holds())
            if answers.get(kind, 0) < 12:
                length = 6 if found.holds() else len(found.book)
                wanted = slow.broken_at(start, menu, promise.words, failing_step, min(length, 6))
                if found.holds():
                    self.assertIsNone(wanted)
                    self.assertEqual(set(found.rows), open_rows(start, menu, promise.words, failing_step))
                elif length <= 6:
                    self.assertEqual(wanted, length)
            answers[kind] = answers.get(kind, 0) + 1


def after_ticks(state, many):
    """The state behind so many ticks."""
    for _ in range(many):
        state, _ = basic_step(state, TICK)
    return state


if __name__ == "__main__":
    unittest.main()
