"""Points 58 and 59: events, their lines, and the step that performs all of them."""

import random
import unittest

from gangbooks.clustertext import read_cluster
from gangbooks.errors import BadEvent, BadHour, BadPolicy, GangError, NoChange, NoWindow, Taken, Unknown
from gangbooks.events import event_line, full_step, read_event
from gangbooks.failing import failing_step
from tests.support import job, refuse, state
from tests.worlds import ROUGH, perform, random_book, random_event

CLUSTER = read_cluster(
    "resources core\nmachine m1 zone y has 4\nmachine m2 zone z has 2\n"
    "group g under - weight 1 floor 0\n"
    "template a group g rank 1 every 0 stage 1 of 2 for 2\n"
    "template c group g rank 9 every 1 stage 1 of 4 for 6")
FREE = "age first never free"
LINES = {
    "come j1 big": ("come", "j1", "big"),
    "drop j1": ("drop", "j1"),
    "early j1": ("early", "j1"),
    "tick": ("tick",),
    "policy rank first any free": ("policy", "rank", "first", "any", "free"),
    "fail m1": ("fail", "m1"),
    "repair m1": ("repair", "m1"),
    "reserve r1 big 12": ("reserve", "r1", "big", 12),
    "close m1 0 48": ("close", "m1", 0, 48),
    "cancel m1 999999": ("cancel", "m1", 999999),
    "shut m1": ("shut", "m1"),
    "reopen m1": ("reopen", "m1"),
    "drain m1": ("drain", "m1"),
}


class LineTest(unittest.TestCase):
    def test_each_event(self):
        for line, event in LINES.items():
            self.assertEqual(event_line(event), line)
            found = read_event(line)
            self.assertEqual(found, event)
            self.assertEqual([type(item) for item in found], [type(item) for item in event])

    def test_words_that_are_no_names_have_the_form(self):
        for line in ("come J! tick", "drop -", "policy a b c d", "fail 12", "reserve 1 2 3", "close ~ 1 2", "come come come"):
            self.assertEqual(event_line(read_event(line)), line)

    def test_integers(self):
        for digits, number in (("0", 0), ("7", 7), ("10", 10), ("100000", 100000), ("999999", 999999)):
            self.assertEqual(read_event("reserve r a " + digits), ("reserve", "r", "a", number))
            self.assertEqual(read_event(f"close m {digits} {digits}"), ("close", "m", number, number))
            self.assertEqual(read_event("cancel m " + digits), ("cancel", "m", number))

    def test_what_is_no_integer(self):
        for digits in ("", "00", "01", "007", "1000000", "0000001", "-1", "+1", "-0", "1.", "x", "1x", "1\n"):
            for line in (f"reserve r a {digits}", f"close m {digits} 1", f"close m 1 {digits}", f"cancel m {digits}"):
                refuse(self, BadEvent, line, read_event, line)

    def test_a_word_too_few_or_too_many(self):
        for line in LINES:
            words = line.split(" ")
            for wrong in (" ".join(words[:-1]), line + " x", line + " 1", line + " tick"):
                refuse(self, BadEvent, wrong, read_event, wrong)

    def test_empty_words(self):
        for line in LINES:
            for wrong in (" " + line, line + " ", line.replace(" ", "  ")):
                if wrong != line:
                    refuse(self, BadEvent, wrong, read_event, wrong)
        for line in ("", " ", "come  a", "come j ", "drop ", "policy a b  d"):
            refuse(self, BadEvent, line, read_event, line)

    def test_newlines(self):
        for line in LINES:
            for wrong in (line + "\n", "\n" + line, line.replace(" ", "\n", 1) if " " in line else "ti\nck"):
                refuse(self, BadEvent, wrong, read_event, wrong)
        refuse(self, BadEvent, "come j\n1 a", read_event, "come j\n1 a")
        refuse(self, BadEvent, "drop \n", read_event, "drop \n")

    def test_other_words(self):
        for line in ("Tick", "ticks", "undo", "strike 1", "insert 1 tick", "attempt", "state", "(tick)", "tick(", "1", "-", "come,j,a"):
            refuse(self, BadEvent, line, read_event, line)

    def test_random_events(self):
        dice = random.Random(58)
        for before, event, _, _ in random_book(dice, 150, ROUGH):
            self.assertEqual(read_event(event_line(event)), event)


class FullStepTest(unittest.TestCase):
    def test_each_event_does_what_its_function_does(self):
        dice = random.Random(5858)
        words = set()
        for _ in range(40):
            for before, event, after, deeds in random_book(dice, 30, ROUGH):
                noted = before.note()
                found = full_step(before, event)
                self.assertIsInstance(found, tuple)
                self.assertEqual((found[0].note(), found[1]), (after.note(), deeds))
                self.assertIsInstance(found[1], list)
                self.assertEqual(before.note(), noted)
                words.add(event[0])
        self.assertEqual(words, {event[0] for event in LINES.values()})

    def test_errors_are_those_of_the_functions(self):
        dice = random.Random(585858)
        refused = 0
        for before, _, _, _ in [row for _ in range(15) for row in random_book(dice, 20, ROUGH)]:
            event = random_event(dice, before, ROUGH)
            try:
                perform(before, event)
            except GangError as error:
                refused += 1
                if not isinstance(error.subject, (str, int, tuple)):
                    self.assertRaises(type(error), full_step, before, event)
                else:
                    refuse(self, type(error), error.subject, full_step, before, event)
        self.assertGreater(refused, 40)

    def test_each_word(self):
        before = state(CLUSTER, FREE, [job("j", 0, (1, 0)), job("k", 1)], hour=5, windows=((1, 9, 10),), shut=(1,))
        self.assertEqual(full_step(before, ("reserve", "r", "a", 7))[1], [])
        self.assertEqual(full_step(before, ("close", "m2", 5, 2))[1], [("away", 1)])
        self.assertEqual(full_step(before, ("cancel", "m2", 10))[0].windows, ())
        self.assertEqual(full_step(before, ("shut", "m1"))[1], [("shut", 0)])
        self.assertEqual(full_step(before, ("reopen", "m2"))[1], [("reopen", 1)])
        self.assertEqual(full_step(before, ("fail", "m1"))[1], [("fail", 0), ("lost", "j", 0)])
        free = full_step(before, ("cancel", "m2", 10))[0]
        self.assertEqual(full_step(full_step(free, ("reopen", "m2"))[0], ("drain", "m1"))[1], [("move", "j", (0, 1)), ("shut", 0)])

    def test_errors_of_each_word(self):
        before = state(CLUSTER, FREE, [job("j", 0, (1, 0))], down=(1,), shut=(1,))
        for kind, subject, event in (
                (Taken, "j", ("reserve", "j", "a", 1)), (BadHour, 201, ("reserve", "r", "a", 201)), (Unknown, "m9", ("close", "m9", 0, 1)),
                (BadHour, 0, ("close", "m1", 0, 0)), (BadHour, 49, ("close", "m1", 0, 49)), (NoWindow, "m1", ("cancel", "m1", 3)),
                (NoChange, "m2", ("shut", "m2")), (NoChange, "m1", ("reopen", "m1")), (NoChange, "m2", ("drain", "m2")),
                (NoChange, "m2", ("fail", "m2")), (NoChange, "m1", ("repair", "m1")), (BadPolicy, "x", ("policy", "x", "y", "z", "free"))):
            refuse(self, kind, subject, full_step, before, event)

    def test_other_words(self):
        before = state(CLUSTER, FREE, [job("j")])
        for event in (("Tick",), ("",), ("undo",), ("strike", 0), ("attempt", ()), ("move", "j", (1, 0)), ("reserved", "j"), ("settle",)):
            refuse(self, BadEvent, event, full_step, before, event)

    def test_failing_step_does_not_know_the_new_words(self):
        before = state(CLUSTER, FREE)
        for event in (("reserve", "r", "a", 3), ("close", "m1", 0, 1), ("cancel", "m1", 1), ("shut", "m1"), ("reopen", "m1"), ("drain", "m1")):
            refuse(self, BadEvent, event, failing_step, before, event)


if __name__ == "__main__":
    unittest.main()
