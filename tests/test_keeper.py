"""Points 61 to 64: keepers, trials and orders."""

import random
import unittest

from gangbooks.books import Book
from gangbooks.clustertext import read_cluster
from gangbooks.errors import (
    BadEvent, BadPolicy, GangError, NoEvent, NotRunning, NothingToUndo, Refused, Taken, Unknown)
from gangbooks.events import full_step
from gangbooks.hours import basic_step, come, tick
from gangbooks.keeper import Keeper
from gangbooks.policy import Policy
from gangbooks.state import State
from tests.support import refuse, state
from tests.worlds import ROUGH, random_cluster, random_event

CLUSTER = read_cluster(
    "resources core\nmachine m1 zone y has 4\nmachine m2 zone z has 2\n"
    "group g under - weight 1 floor 0\n"
    "template a group g rank 1 every 0 stage 1 of 2 for 2\n"
    "template c group g rank 9 every 1 stage 1 of 4 for 6")
START = State.empty(CLUSTER, Policy.read("age first never free"))
EVENTS = [("come", "i", "c"), ("come", "j", "a"), ("tick",), ("drop", "i"), ("tick",)]
DEEDS = [[("start", "i", (1, 0))], [("start", "j", (0, 1))], [], [("drop", "i", 1, 0, 0)], [("end", "j", 2, 0, 0)]]
TICK = ("tick",)


def replayed(start, step, events):
    """The states after each number of the events, and their deeds; None at the first one that is refused."""
    states, deeds = [start], []
    for at, event in enumerate(events):
        try:
            after, done = step(states[-1], event)
        except GangError:
            return None, at
        states.append(after)
        deeds.append(done)
    return states, deeds


class KeeperTestCase(unittest.TestCase):
    def check(self, keeper, events, start=START, step=full_step):
        """Look at all that a keeper tells."""
        states, deeds = replayed(start, step, events)
        self.assertIsInstance(keeper.entered, Book)
        self.assertEqual(list(keeper.entered), list(events))
        self.assertEqual(len(keeper), len(events))
        self.assertEqual(keeper.state.note(), states[-1].note())
        self.assertEqual(list(keeper), [(event, tuple(done)) for event, done in zip(events, deeds)])
        self.assertEqual([keeper.as_of(n).note() for n in range(len(events) + 1)], [one.note() for one in states])
        walked = [(at, states[at + 1].hour, deed) for at, done in enumerate(deeds) for deed in done]
        self.assertEqual(list(keeper.walk()), walked)

    def refuse(self, keeper, kind, subject, call, *args):
        """Check that an error leaves the keeper as it was; return the error."""
        events, text = list(keeper.entered), keeper.state.text()
        error = refuse(self, kind, subject, call, *args)
        self.assertEqual((list(keeper.entered), keeper.state.text()), (events, text))
        self.check(keeper, events, keeper.as_of(0))
        return error

    def made(self, events=EVENTS, start=START):
        keeper = Keeper(start, full_step)
        keeper.extend_by(events)
        return keeper


class EnterTest(KeeperTestCase):
    def test_a_new_keeper(self):
        keeper = Keeper(START, basic_step)
        self.check(keeper, [])
        self.assertIs(keeper.state, START)
        self.assertIs(keeper.as_of(0), START)
        self.assertTrue(keeper.entered == Book([]))

    def test_events_one_by_one(self):
        keeper = Keeper(START, full_step)
        for at, event in enumerate(EVENTS):
            deeds = keeper.enter(event)
            self.assertIsInstance(deeds, list)
            self.assertEqual(deeds, DEEDS[at])
            deeds.append("one more")
            self.check(keeper, EVENTS[:at + 1])

    def test_it_may_start_with_any_state(self):
        start = state(CLUSTER, "rank first any hold", hour=7, windows=((1, 8, 9),), shut=(0,))
        keeper = Keeper(start, full_step)
        keeper.enter(("come", "j", "a"))
        keeper.enter(TICK)
        self.check(keeper, [("come", "j", "a"), TICK], start)
        self.assertEqual(list(keeper.walk())[0], (1, 8, ("away", 1)))

    def test_errors_of_the_step_are_passed_on(self):
        keeper = self.made(EVENTS[:2])
        self.refuse(keeper, Taken, "j", keeper.enter, ("come", "j", "a"))
        self.refuse(keeper, Unknown, "x", keeper.enter, ("drop", "x"))
        self.refuse(keeper, BadPolicy, "z", keeper.enter, ("policy", "age", "first", "z", "free"))
        self.refuse(keeper, BadEvent, ("undo",), keeper.enter, ("undo",))
        basic = Keeper(START, basic_step)
        refuse(self, BadEvent, ("fail", "m1"), basic.enter, ("fail", "m1"))

    def test_a_step_of_ones_own(self):
        told = []

        def step(before, event):
            told.append(event)
            return tick(before) if event == TICK else come(before, event[1], "a")

        keeper = Keeper(START, step)
        keeper.enter(("new", "q"))
        self.assertEqual((keeper.enter(TICK), told, keeper.state.hour), ([], [("new", "q"), TICK], 1))

    def test_all_or_none(self):
        keeper = Keeper(START, full_step)
        same = keeper
        keeper += EVENTS[:2]
        self.assertIs(keeper, same)
        self.check(keeper, EVENTS[:2])
        keeper += Book(EVENTS[2:])
        self.check(keeper, EVENTS)
        keeper += []
        keeper += Book([])
        self.check(keeper, EVENTS)
        self.assertIsNone(keeper.extend_by([TICK]))
        self.check(keeper, EVENTS + [TICK])
        self.assertIsNone(keeper.extend_by(Book(EVENTS)))
        self.check(keeper, EVENTS + [TICK] + EVENTS)

    def test_refused(self):
        keeper = self.made(EVENTS[:2])

        def add(events):
            nonlocal keeper
            keeper += events

        for call in (add, keeper.extend_by):
            for events, at, kind, subject in (
                    ([("come", "j", "a")], 0, Taken, "j"), ([TICK, TICK, ("early", "j")], 2, Unknown, "j"),
                    ([TICK, ("come", "k", "c"), ("early", "k"), TICK], 2, NotRunning, "k"), ([TICK, ("no",)], 1, BadEvent, ("no",))):
                for kept in (events, Book(events)):
                    error = self.refuse(keeper, Refused, at, call, kept)
                    self.assertIs(type(error.__cause__), kind)
                    self.assertEqual(error.__cause__.subject, subject)

    def test_the_list_is_copied(self):
        events = list(EVENTS)
        keeper = self.made(events)
        events.clear()
        self.check(keeper, EVENTS)


class TakeBackTest(KeeperTestCase):
    def test_undo(self):
        keeper = self.made()
        for at in reversed(range(5)):
            self.assertEqual(keeper.undo(), EVENTS[at])
            self.check(keeper, EVENTS[:at])
        self.refuse(keeper, NothingToUndo, 1, keeper.undo)

    def test_several(self):
        for n in range(6):
            keeper = same = self.made()
            keeper -= n
            self.assertIs(keeper, same)
            self.check(keeper, EVENTS[:5 - n])
            other = self.made()
            self.assertIsNone(other.undo_all(n))
            self.check(other, EVENTS[:5 - n])

    def test_too_many(self):
        keeper = self.made()

        def take_back(n):
            nonlocal keeper
            keeper -= n

        for n in (6, 7, 100):
            self.refuse(keeper, NothingToUndo, n, keeper.undo_all, n)
            self.refuse(keeper, NothingToUndo, n, take_back, n)
        empty = Keeper(START, full_step)
        self.refuse(empty, NothingToUndo, 1, empty.undo_all, 1)
        empty -= 0
        self.check(empty, [])


class StrikeTest(KeeperTestCase):
    def test_strike(self):
        for at in (0, 2, 3, 4):
            keeper = self.made()
            if at == 0:
                # Without its coming the drop of i is refused.
                self.refuse(keeper, Refused, 2, keeper.strike, 0)
                keeper.strike(3)
            self.assertEqual(keeper.strike(at), EVENTS[at])
            left = [event for k, event in enumerate(EVENTS) if k != at and (at != 0 or k != 3)]
            self.check(keeper, left)

    def test_what_is_behind_is_performed_again(self):
        keeper = self.made([("come", "i", "c"), ("come", "j", "c"), TICK])
        self.assertIsNone(keeper.state["j"].place)
        keeper.strike(0)
        self.assertEqual(list(keeper), [(("come", "j", "c"), (("start", "j", (1, 0)),)), (TICK, ())])

    def test_strike_refused(self):
        keeper = self.made([TICK] + EVENTS + [TICK])
        error = self.refuse(keeper, Refused, 3, keeper.strike, 1)
        self.assertIs(type(error.__cause__), Unknown)
        self.assertEqual(error.__cause__.subject, "i")

    def test_strike_no_event(self):
        keeper = self.made()
        for at in (-1, -5, 5, 6):
            self.refuse(keeper, NoEvent, at, keeper.strike, at)
        empty = Keeper(START, full_step)
        self.refuse(empty, NoEvent, 0, empty.strike, 0)

    def test_insert_at(self):
        for at in range(6):
            keeper = self.made()
            self.assertIsNone(keeper.insert_at(at, ("come", "k", "a")))
            self.check(keeper, EVENTS[:at] + [("come", "k", "a")] + EVENTS[at:])
        empty = Keeper(START, full_step)
        empty.insert_at(0, TICK)
        self.check(empty, [TICK])

    def test_insert_refused(self):
        keeper = self.made()
        for at, event, i, kind, subject in (
                (0, ("drop", "i"), 0, Unknown, "i"), (5, ("drop", "j"), 5, Unknown, "j"), (2, ("come", "j", "a"), 2, Taken, "j"),
                (0, ("come", "j", "a"), 2, Taken, "j"), (2, ("drop", "i"), 4, Unknown, "i"), (3, ("no",), 3, BadEvent, ("no",))):
            error = self.refuse(keeper, Refused, i, keeper.insert_at, at, event)
            self.assertIs(type(error.__cause__), kind)
            self.assertEqual(error.__cause__.subject, subject)

    def test_insert_no_event(self):
        keeper = self.made()
        for at in (-1, -5, 6, 7):
            self.refuse(keeper, NoEvent, at, keeper.insert_at, at, TICK)
            # The index is looked at first.
            self.refuse(keeper, NoEvent, at, keeper.insert_at, at, ("drop", "x"))


class LookTest(KeeperTestCase):
    def test_as_of(self):
        keeper = self.made()
        self.assertEqual([keeper.as_of(n).hour for n in range(6)], [0, 0, 0, 1, 1, 2])
        for n in (-1, -5, 6, 7):
            self.refuse(keeper, NoEvent, n, keeper.as_of, n)

    def test_would(self):
        keeper = self.made(EVENTS[:2])
        found = keeper.would(*EVENTS[2:])
        self.assertEqual(found, DEEDS[2:])
        self.assertTrue(all(isinstance(deeds, list) for deeds in [found, *found]))
        self.check(keeper, EVENTS[:2])
        self.assertEqual(keeper.would(), [])
        self.assertEqual(Keeper(START, full_step).would(*EVENTS), DEEDS)

    def test_would_refused(self):
        keeper = self.made(EVENTS[:2])
        error = self.refuse(keeper, Refused, 1, keeper.would, TICK, ("come", "i", "a"), TICK)
        self.assertEqual((type(error.__cause__), error.__cause__.subject), (Taken, "i"))
        self.refuse(keeper, Refused, 0, keeper.would, ("drop", "k"))

    def test_replay(self):
        keeper = Keeper.replay(START, full_step, Book(EVENTS))
        self.assertIs(type(keeper), Keeper)
        self.check(keeper, EVENTS)
        self.check(Keeper.replay(START, full_step, Book([])), [])
        error = refuse(self, Refused, 1, Keeper.replay, START, full_step, Book([TICK, ("drop", "i"), ("drop", "j")]))
        self.assertEqual((type(error.__cause__), error.__cause__.subject), (Unknown, "i"))

    def test_walk(self):
        keeper = self.made()
        self.assertEqual(list(keeper.walk()), [
            (0, 0, ("start", "i", (1, 0))), (1, 0, ("start", "j", (0, 1))), (3, 1, ("drop", "i", 1, 0, 0)), (4, 2, ("end", "j", 2, 0, 0))])
        self.assertEqual(next(keeper.walk()), (0, 0, ("start", "i", (1, 0))))
        self.assertEqual(list(Keeper(START, full_step).walk()), [])

    def test_iteration(self):
        for event, deeds in self.made():
            self.assertIsInstance(deeds, tuple)
        self.assertEqual([pair for pair in self.made()], list(zip(EVENTS, [tuple(deeds) for deeds in DEEDS])))

    def test_the_properties_cannot_be_assigned(self):
        for name in ("state", "entered"):
            with self.assertRaises(AttributeError):
                setattr(self.made(), name, None)


class Stop(Exception):
    """An error that is not of the program."""


class TrialTest(KeeperTestCase):
    def test_a_trial_that_ends_well(self):
        keeper = self.made(EVENTS[:2])
        with keeper.trial() as same:
            self.assertIs(same, keeper)
            same += EVENTS[2:]
            keeper.strike(2)
        self.check(keeper, EVENTS[:2] + EVENTS[3:])

    def test_a_trial_that_an_error_leaves(self):
        for error in (Stop(), Taken("x"), KeyboardInterrupt()):
            keeper = self.made(EVENTS[:2])
            with self.assertRaises(type(error)) as caught:
                with keeper.trial():
                    keeper.enter(TICK)
                    keeper.undo_all(2)
                    keeper.insert_at(0, TICK)
                    raise error
            self.assertIs(caught.exception, error)
            self.check(keeper, EVENTS[:2])

    def test_an_error_that_is_caught_inside(self):
        keeper = self.made(EVENTS[:2])
        with keeper.trial():
            keeper.enter(TICK)
            try:
                keeper.enter(("drop", "x"))
            except Unknown:
                pass
        self.check(keeper, EVENTS[:2] + [TICK])

    def test_the_book_of_the_moment_in_which_the_block_is_entered(self):
        keeper = self.made(EVENTS[:2])
        trial = keeper.trial()
        keeper.enter(TICK)
        with self.assertRaises(Stop):
            with trial:
                keeper.enter(TICK)
                raise Stop
        self.check(keeper, EVENTS[:2] + [TICK])

    def test_nested(self):
        keeper = self.made(EVENTS[:2])
        with keeper.trial():
            keeper.enter(TICK)
            with self.assertRaises(Stop):
                with keeper.trial():
                    keeper.undo_all(3)
                    with keeper.trial():
                        keeper.enter(TICK)
                    self.check(keeper, [TICK])
                    raise Stop
            self.check(keeper, EVENTS[:2] + [TICK])
        self.check(keeper, EVENTS[:2] + [TICK])
        with self.assertRaises(Stop):
            with keeper.trial():
                keeper.undo()
                with keeper.trial():
                    keeper.enter(("drop", "j"))
                self.check(keeper, EVENTS[:2] + [("drop", "j")])
                raise Stop
        self.check(keeper, EVENTS[:2] + [TICK])

    def test_a_block_that_is_left_by_return(self):
        keeper = self.made(EVENTS[:2])

        def run():
            with keeper.trial() as same:
                same.enter(TICK)
                return same

        self.check(run(), EVENTS[:2] + [TICK])


class PerformTest(KeeperTestCase):
    def test_all_orders(self):
        keeper = self.made(EVENTS[:2])
        self.assertIsNone(keeper.perform([TICK, TICK, ("undo",), ("strike", 0), ("insert", 1, ("come", "k", "c")), ("insert", 3, ("drop", "j"))]))
        self.check(keeper, [("come", "j", "a"), ("come", "k", "c"), TICK, ("drop", "j")])
        self.assertIsNone(keeper.perform([]))
        self.check(keeper, [("come", "j", "a"), ("come", "k", "c"), TICK, ("drop", "j")])

    def test_jobs_with_the_names_of_orders(self):
        keeper = self.made([])
        orders = [("come", "undo", "a"), ("come", "strike", "a"), ("come", "attempt", "a"), ("drop", "undo"), ("drop", "strike"), ("drop", "attempt")]
        keeper.perform(orders)
        self.check(keeper, orders)

    def test_errors_are_passed_on_as_they_are(self):
        keeper = self.made(EVENTS[:2])
        for orders, kind, subject in (
                ([TICK, ("drop", "x"), TICK], Unknown, "x"), ([TICK, ("undo",), ("undo",), ("undo",), ("undo",)], NothingToUndo, 1),
                ([TICK, ("strike", 3)], NoEvent, 3), ([TICK, ("strike", -1)], NoEvent, -1), ([("insert", 3, TICK)], NoEvent, 3),
                ([("insert", 1, ("drop", "j"))], Refused, 1), ([TICK, ("drop", "i"), ("strike", 0)], Refused, 2), ([TICK, ("no", 1)], BadEvent, ("no", 1))):
            self.refuse(keeper, kind, subject, keeper.perform, orders)

    def test_attempts(self):
        keeper = self.made(EVENTS[:2])
        keeper.perform([("attempt", [TICK, TICK]), ("attempt", [("drop", "i"), ("drop", "x"), TICK]), ("attempt", []), ("drop", "i")])
        self.check(keeper, EVENTS[:2] + [TICK, TICK, ("drop", "i")])
        keeper.perform([("attempt", [("undo",)] * 6), ("attempt", [("strike", 0)]), ("attempt", [("insert", 9, TICK)])])
        self.check(keeper, EVENTS[:2] + [TICK, TICK, ("drop", "i")])

    def test_attempts_in_attempts(self):
        keeper = self.made(EVENTS[:2])
        # The inner attempt fails alone; what stands around it goes on.
        keeper.perform([("attempt", [TICK, ("attempt", [("drop", "j"), ("drop", "j")]), ("drop", "i")])])
        self.check(keeper, EVENTS[:2] + [TICK, ("drop", "i")])
        # The inner attempt ends well, but the outer one takes it back.
        keeper.perform([("attempt", [("attempt", [TICK]), ("drop", "x")]), ("drop", "j")])
        self.check(keeper, EVENTS[:2] + [TICK, ("drop", "i"), ("drop", "j")])

    def test_an_error_behind_an_attempt(self):
        keeper = self.made(EVENTS[:2])
        self.refuse(keeper, Unknown, "x", keeper.perform, [("attempt", [TICK, ("attempt", [TICK])]), ("drop", "x")])

    def test_ten_deep(self):
        orders = [TICK, ("drop", "x")]
        for _ in range(10):
            orders = [TICK, ("attempt", orders)]
        keeper = self.made(EVENTS[:2])
        keeper.perform(orders)
        self.check(keeper, EVENTS[:2] + [TICK] * 10)

    def test_an_error_that_is_not_of_the_program_leaves_attempts(self):
        def step(before, event):
            if event == ("stop",):
                raise Stop
            return full_step(before, event)

        keeper = Keeper(START, step)
        keeper.enter(TICK)
        with self.assertRaises(Stop):
            keeper.perform([TICK, ("attempt", [TICK, ("stop",)]), TICK])
        self.check(keeper, [TICK])


class RandomTest(KeeperTestCase):
    def test_random_changes(self):
        """The same as on a list of events that is performed anew after each change."""
        dice = random.Random(61)
        for _ in range(12):
            start = State.empty(random_cluster(dice), Policy.read("share tight owed hold"))
            keeper, events = Keeper(start, full_step), []
            for _ in range(30):
                event = random_event(dice, keeper.state, ROUGH)
                at = dice.randrange(-1, len(events) + 2)
                word = dice.choice(["enter"] * 4 + ["undo", "strike", "insert", "back"])
                wanted = {"enter": events + [event], "undo": events[:-1], "back": events[:max(0, len(events) - 2)],
                          "strike": events[:max(at, 0)] + events[max(at, 0) + 1:],
                          "insert": events[:max(at, 0)] + [event] + events[max(at, 0):]}[word]
                least = {"undo": len(events) >= 1, "back": len(events) >= 2, "strike": 0 <= at < len(events),
                         "insert": 0 <= at <= len(events), "enter": True}[word]
                call = {"enter": lambda: keeper.enter(event), "undo": keeper.undo, "back": lambda: keeper.undo_all(2),
                        "strike": lambda: keeper.strike(at), "insert": lambda: keeper.insert_at(at, event)}[word]
                possible = least and replayed(start, full_step, wanted)[0] is not None
                if possible:
                    call()
                    events = wanted
                else:
                    self.assertRaises(GangError, call)
                self.check(keeper, events, start)


if __name__ == "__main__":
    unittest.main()
