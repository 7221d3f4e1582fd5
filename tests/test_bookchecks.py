"""Point 78: the checkers of the certificates about all books of a menu."""

import random
import unittest

from gangbooks.bookchecks import check_pairs, check_promise, check_wait
from gangbooks.certificates import certificate_text, read_certificate
from gangbooks.clustertext import read_cluster
from gangbooks.errors import TooWide, Unknown
from gangbooks.failing import failing_step
from gangbooks.hours import basic_step
from gangbooks.menus import Menu
from gangbooks.pairs import PairBook, PairTable, alike, harmless, never_later
from gangbooks.policy import Policy
from gangbooks.promises import Begins, Broken, Ends, Floor, Kept, Reserved, Stays, judge
from gangbooks.shapes import shape
from gangbooks.state import State
from gangbooks.waits import WaitBound, WaitRing, longest_wait
from tests import slow
from tests.alter import STRANGE, altered_certificates
from tests.test_pairs import rows_by_hand
from tests.test_promises import open_rows
from tests.test_waits import ways_by_hand
from tests.worlds import CALM, POLICIES, ROUGH, last_state, perform, random_cluster

TICK = ("tick",)
ONE = read_cluster(
    "resources core\nmachine m1 zone z has 2\ngroup g under - weight 1 floor 0\n"
    "template a group g rank 1 every 0 stage 1 of 2 for 2\n"
    "template b group g rank 5 every 0 stage 1 of 2 for 1\n"
    "template s group g rank 2 every 0 stage 1 of 1 for 1\n"
    "template big group g rank 9 every 0 stage 2 of 2 for 1")
ALL = [read_certificate(text) for text in STRANGE.split("\n")]


def empty(words="age first never free"):
    return State.empty(ONE, Policy.read(words))


def after(start, *events):
    """The state behind some events."""
    for event in events:
        start, _ = perform(start, event)
    return start


def come(number, template):
    return ("come", f"x{number}", template)


class CheckTest(unittest.TestCase):
    def check(self, right, checker, *args):
        """Check the answer of a checker, also for the certificate that is read from its text."""
        self.assertIs(checker(*args), right, args[-1].note())
        again = read_certificate(certificate_text(args[-1]))
        self.assertIs(checker(*args[:-1], again), right)

    def check_others(self, kinds, checker, *args):
        """Check that a checker says no to certificates of other classes, and is not upset by strange ones."""
        for certificate in ALL:
            found = checker(*args, certificate)
            self.assertIn(found, (True, False))
            if not isinstance(certificate, kinds):
                self.assertIs(found, False, certificate.note())

    def check_altered(self, certificate, checker, args, right, dice, many):
        for made in altered_certificates(certificate, dice, many):
            self.assertIs(checker(*args, made), right(made), (certificate.note(), made.note()))


def swapped(rows, at, row):
    """The rows with another one at this index."""
    return rows[:at] + (row,) + rows[at + 1:]


def states_of(start, menu, step, book):
    """The states behind the events of a book, or None if it is none of the menu."""
    states = [start]
    for event in book:
        if event not in menu(states[-1]):
            return None
        states.append(step(states[-1], event)[0])
    return states


def right_verdict(start, menu, promise, step, found):
    """Tell by the words of point 78 whether a Kept or a Broken is right."""
    words = promise.words
    if found.words != words:
        return False
    if isinstance(found, Kept):
        if not judge(start, menu, promise, step).holds():
            return False
        wanted = open_rows(start, menu, words, step)
        return len(found.rows) == len(wanted) and set(found.rows) == wanted
    ticks = words[2] if len(words) > 2 else -1
    if slow.is_broken(words, ticks, None, start, []):
        return found.book == ()
    if not slow.can_be_broken(words, start):
        return False
    now = start
    for at, event in enumerate(found.book):
        if event not in menu(now):
            return False
        new, deeds = step(now, event)
        ticks = ticks - 1 if event == TICK and ticks > 0 else ticks
        if slow.is_broken(words, ticks, now, new, deeds):
            return at == len(found.book) - 1
        if not slow.can_be_broken(words, new):
            return False
        now = new
    return False


class PromiseTest(CheckTest):
    def test_what_judge_returns(self):
        start = after(empty(), ("come", "j1", "a"), ("come", "j2", "b"))
        for menu in (Menu(), Menu("a", "b"), Menu("b", "s", many=3, drops=True), Menu("big", early=True)):
            for promise in (Begins("j1", 0), Begins("j2", 0), Begins("j2", 1), Begins("j2", 2), Ends("j1", 1), Ends("j1", 2), Ends("j2", 4), Stays("j1"), Reserved("j2"), Floor("g")):
                found = judge(start, menu, promise, basic_step)
                self.check(True, check_promise, start, menu, promise, basic_step, found)

    def test_rows_of_a_kept(self):
        start, menu, promise = after(empty(), ("come", "j1", "a"), ("come", "j2", "b")), Menu("b", many=3), Begins("j2", 2)
        rows = judge(start, menu, promise, basic_step).rows
        self.assertGreater(len(rows), 3)
        for others in (rows[::-1], rows[2:] + rows[:2]):
            self.check(True, check_promise, start, menu, promise, basic_step, Kept(promise.words, others))
        form, index, hours = rows[1]
        for others in ((), rows[1:], rows[:-1], rows + rows[:1], rows[:1] + rows, swapped(rows, 1, rows[0]), swapped(rows, 1, (form, index + 1, hours)),
                       swapped(rows, 1, (form, -1, hours)), swapped(rows, 1, (form, index, hours + 1)), swapped(rows, 1, (form, index, 0)), swapped(rows, 1, (form, index, -1)),
                       swapped(rows, 1, (form[:-1], index, hours)), swapped(rows, 1, ((), index, hours)), rows + ((form, index, hours + 9),), rows + (((), 0, 0),)):
            self.check(False, check_promise, start, menu, promise, basic_step, Kept(promise.words, others))

    def test_words(self):
        start, menu = after(empty(), ("come", "j1", "a"), ("come", "j2", "b")), Menu()
        for promise in (Begins("j2", 2), Ends("j2", 1), Stays("j1")):
            found = judge(start, menu, promise, basic_step)
            rest = found.note()[2]
            for words in ((), promise.words[:1], promise.words + (0,), ("stays", "j2"), ("begins", "j2", 3), ("ends", "j2", 2), ("ends", "j1", 1), ("reserved", "j1")):
                self.check(False, check_promise, start, menu, promise, basic_step, type(found)(words, rest))

    def test_a_promise_that_is_not_kept(self):
        # The rows are those of the states that are met, but a book breaks the promise.
        start, menu, promise = after(empty(), ("come", "j1", "a"), ("come", "j2", "b")), Menu(), Begins("j2", 1)
        self.check(False, check_promise, start, menu, promise, basic_step, Kept(promise.words, ((shape(start), 1, 1),)))
        self.check(False, check_promise, start, menu, Begins("j2", 0), basic_step, Kept(("begins", "j2", 0), ()))
        self.check(False, check_promise, start, menu, Begins("j2", 0), basic_step, Kept(("begins", "j2", 0), ((shape(start), 1, 0),)))
        # The job leaves with the next event, so that only the beginning breaks the promise.
        short = after(empty(), ("come", "j1", "s"))
        self.check(False, check_promise, short, menu, Ends("j1", 0), basic_step, Kept(("ends", "j1", 0), ((shape(short), 0, 0),)))
        self.check(False, check_promise, short, menu, Ends("j1", 0), basic_step, Kept(("ends", "j1", 0), ()))

    def test_rows_of_a_promise_that_is_not_kept(self):
        # The rows go on behind the events that break the promise, as they would if these did not.
        start, menu = after(empty("rank first any free"), ("come", "j1", "a")), Menu("b", "s")
        self.assertFalse(judge(start, menu, Stays("j1"), basic_step).holds())
        rows = judge(start, menu, Reserved("j1"), basic_step).rows
        self.check(True, check_promise, start, menu, Reserved("j1"), basic_step, Kept(("reserved", "j1"), rows))
        self.check(False, check_promise, start, menu, Stays("j1"), basic_step, Kept(("stays", "j1"), rows))

    def test_books_of_a_broken(self):
        start, promise = after(empty("rank first any free"), ("come", "j1", "a")), Stays("j1")
        menu = Menu("b", "s", many=3)
        found = judge(start, menu, promise, basic_step)
        self.assertEqual(found.book, (come(1, "b"),))
        for book, right in (
                ((come(1, "b"),), True), ((TICK, come(1, "b")), True), ((come(1, "s"),), True), ((TICK, TICK, come(1, "b")), False), ((), False), ((TICK,), False),
                ((come(1, "b"), TICK), False), ((come(1, "b"), come(2, "b")), False), ((come(2, "b"),), False), ((("come", "j9", "b"),), False), ((come(1, "a"),), False),
                ((come(1, "big"),), False), ((("drop", "j1"), come(1, "b")), False), ((("early", "j1"),), False), ((TICK, ("policy",), come(1, "b")), False),
                (((),), False), (((5,),), False)):
            self.check(right, check_promise, start, menu, promise, basic_step, Broken(promise.words, book))
        # With another menu its books are not the same.
        self.check(False, check_promise, start, Menu("s"), promise, basic_step, Broken(promise.words, (come(1, "b"),)))
        self.check(False, check_promise, start, Menu("b", many=1), promise, basic_step, Broken(promise.words, (come(1, "b"),)))

    def test_a_longer_book(self):
        start, menu, promise = after(empty(), ("come", "j1", "a"), ("come", "j2", "s")), Menu("a", many=3, drops=True), Ends("j1", 1)
        self.check(True, check_promise, start, menu, promise, basic_step, Broken(promise.words, (TICK,)))
        self.check(True, check_promise, start, menu, promise, basic_step, Broken(promise.words, (come(1, "a"), ("drop", "x1"), ("drop", "j2"), come(1, "a"), TICK)))
        self.check(False, check_promise, start, menu, promise, basic_step, Broken(promise.words, (TICK, TICK)))
        self.check(False, check_promise, start, menu, promise, basic_step, Broken(promise.words, (TICK, come(1, "a"))))

    def test_books_behind_the_end_of_the_job(self):
        # The job leaves, and its name comes again: this one breaks nothing.
        start, menu, promise = after(empty(), come(1, "s")), Menu("s"), Ends("x1", 2)
        self.check(True, check_promise, start, menu, promise, basic_step, judge(start, menu, promise, basic_step))
        self.check(False, check_promise, start, menu, promise, basic_step, Broken(promise.words, (TICK, come(1, "s"), TICK)))
        late = (TICK, TICK, come(1, "s"))
        self.check(False, check_promise, start, menu, promise, basic_step, Broken(promise.words, late))

    def test_the_empty_book(self):
        start, menu = after(empty(), ("come", "j1", "a"), ("come", "j2", "b")), Menu("strange", many=9)
        for promise in (Ends("j1", 0), Ends("j2", 0), Begins("j2", 0)):
            self.check(True, check_promise, start, menu, promise, basic_step, Broken(promise.words, ()))
            self.check(False, check_promise, start, menu, promise, basic_step, Broken(promise.words, (TICK,)))
        self.check(False, check_promise, start, menu, Begins("j1", 0), basic_step, Broken(("begins", "j1", 0), ()))
        self.check(True, check_promise, start, menu, Begins("j1", 0), basic_step, Kept(("begins", "j1", 0), ()))

    def test_strange_questions(self):
        start, menu = empty(), Menu("a")
        for promise in (Stays("j1"), Begins("j1", 0), Ends("j1", 3), Floor("strange"), Floor("a")):
            self.check(False, check_promise, start, menu, promise, basic_step, Kept(promise.words, ()))
            self.check(False, check_promise, start, menu, promise, basic_step, Broken(promise.words, ()))
        # An error of the step makes it wrong as well.
        start = after(empty(), ("come", "j1", "a"))
        for menu in (Menu("strange"), Menu(failures=1)):
            self.check(False, check_promise, start, menu, Stays("j1"), basic_step, Kept(("stays", "j1"), judge(start, Menu(), Stays("j1"), basic_step).rows))
        self.check(False, check_promise, start, Menu("strange"), Stays("j1"), basic_step, Broken(("stays", "j1"), (come(1, "strange"),)))

    def test_others(self):
        start = after(empty(), ("come", "j1", "a"))
        for promise in (Stays("j1"), Begins("x1", 3), Floor("g"), Ends("j1", 0)):
            self.check_others((Kept, Broken), check_promise, start, Menu("a"), promise, basic_step)

    def test_random_changes(self):
        dice = random.Random(1)
        counts = {True: 0, False: 0}
        while min(counts.values()) < 25:
            start = last_state(dice, 8, ROUGH)
            names = [job.name for job in start]
            menu = Menu(*[one.name for one in start.cluster.templates][:dice.randrange(3)], many=min(max(1, len(start) + dice.randrange(2)), 12),
                        failures=dice.choice([0, 0, 1]), early=dice.random() < 0.4, drops=dice.random() < 0.4)
            promise = Floor("top")
            if names and dice.random() < 0.9:
                promise = dice.choice([Begins(dice.choice(names), dice.randrange(4)), Ends(dice.choice(names), dice.randrange(5)), Stays(dice.choice(names)), Reserved(dice.choice(names))])
            try:
                found = judge(start, menu, promise, failing_step, most=40)
            except TooWide:
                continue
            if counts[found.holds()] < 60:
                self.check(True, check_promise, start, menu, promise, failing_step, found)
                self.check_altered(found, check_promise, (start, menu, promise, failing_step), lambda one: right_verdict(start, menu, promise, failing_step, one), dice, 12)
            counts[found.holds()] += 1


def right_bound(start, menu, template, step, found):
    """Tell by the words of point 78 whether a WaitBound is right."""
    firsts, ways = ways_by_hand(start, menu, template, step)
    wanted = [shape(now) for now in states_met(start, menu, step)]
    if len(found.shapes) != len(wanted) or set(found.shapes) != set(wanted):
        return False
    numbers = {row[:2]: row[2] for row in found.rows}
    if len(found.rows) != len(ways) or set(numbers) != set(ways) or not all(number >= 1 for number in numbers.values()):
        return False
    if any(numbers[one] > found.hours for one in firsts):
        return False
    if any(numbers[other] > numbers[one] - (1 if by_tick else 0) for one, behind in ways.items() for other, by_tick in behind):
        return False
    if not any(event[0] == "come" and event[2] == template for one in states_met(start, menu, step) for event in menu(one)):
        return (found.hours, found.name, found.book) == (0, None, ())
    states = states_of(start, menu, step, found.book)
    if states is None:
        return False
    came = [at for at, event in enumerate(found.book) if event[:2] == ("come", found.name)][-1:]
    if not came or found.book[came[0]][2] != template or found.name not in states[-1] or states[-1][found.name].began is None:
        return False
    waiting = states[came[0] + 1:-1]
    return all(found.name in now and now[found.name].began is None for now in waiting) and found.book[came[0]:].count(TICK) == found.hours


def states_met(start, menu, step):
    """A state of each shape that books lead to."""
    met, waiting = {}, [start]
    while waiting:
        now = waiting.pop()
        if shape(now) not in met:
            met[shape(now)] = now
            waiting += [step(now, event)[0] for event in menu(now)]
    return list(met.values())


def right_ring(start, menu, template, step, found):
    """Tell by the words of point 78 whether a WaitRing is right."""
    states = states_of(start, menu, step, found.book)
    further = states_of(states[-1], menu, step, found.ring) if states else None
    if further is None or TICK not in found.ring:
        return False
    came = [at for at, event in enumerate(found.book) if event[:2] == ("come", found.name)][-1:]
    if not came or found.book[came[0]][2] != template:
        return False
    if not all(found.name in now and now[found.name].began is None for now in states[came[0] + 1:] + further):
        return False
    index = [[job.name for job in now].index(found.name) for now in (further[0], further[-1])]
    return shape(further[0]) == shape(further[-1]) and index[0] == index[1]


class WaitTest(CheckTest):
    def bound(self, words="age first never free", **more):
        menu = Menu("a", "b", **more)
        return empty(words), menu, "a", basic_step, longest_wait(empty(words), menu, "a", basic_step)

    def test_what_longest_wait_returns(self):
        for words in ("age first never free", "rank first any free", "short tight owed strict"):
            for menu in (Menu("a"), Menu("a", "b"), Menu("a", "b", many=3), Menu("b", "big", drops=True), Menu("s", "big", "a", early=True), Menu("big", many=1)):
                for template in menu.templates:
                    found = longest_wait(empty(words), menu, template, basic_step)
                    self.check(True, check_wait, empty(words), menu, template, basic_step, found)

    def test_shapes_and_rows_in_another_order(self):
        *question, bound = self.bound()
        hours, name, book, shapes, rows = bound.note()[1:]
        for other in (WaitBound(hours, name, book, shapes[::-1], rows), WaitBound(hours, name, book, shapes, rows[::-1]), WaitBound(hours, name, book, shapes[3:] + shapes[:3], rows[1:] + rows[:1])):
            self.check(True, check_wait, *question, other)
        for others in (shapes[1:], shapes[:-1], (), shapes + shapes[:1], swapped(shapes, 0, shapes[1]), shapes + ((),), swapped(shapes, 0, ()), swapped(shapes, 0, shapes[0][:-1]),
                       swapped(shapes, 0, shapes[0] + (0,))):
            self.check(False, check_wait, *question, WaitBound(hours, name, book, others, rows))
        for others in (rows[1:], rows[:-1], (), rows + rows[:1], swapped(rows, 0, rows[1]), rows + (((), 0, 1),), swapped(rows, 0, (rows[0][0], rows[0][1] + 1, 1)),
                       swapped(rows, 0, (rows[0][0], -1, rows[0][2])), swapped(rows, 0, (shapes[0], 0, 1)), rows + ((shapes[0], 0, 1),)):
            self.check(False, check_wait, *question, WaitBound(hours, name, book, shapes, others))

    def test_numbers(self):
        start, menu, template, step, bound = self.bound()
        hours, name, book, shapes, rows = bound.note()[1:]
        self.assertEqual(hours, 2)
        firsts, ways = ways_by_hand(start, menu, template, step)
        self.assertEqual(sorted({row[2] for row in rows}), [1, 2])
        for at, row in enumerate(rows):
            for number in (0, -1, 3, 100):
                others = swapped(rows, at, (*row[:2], number))
                made = WaitBound(hours, name, book, shapes, others)
                self.check(right_bound(start, menu, template, step, made), check_wait, start, menu, template, step, made)
                self.assertIs(right_bound(start, menu, template, step, made), number > 2 and row[:2] not in firsts and not any(
                    (row[:2], by_tick) in behind for behind in ways.values() for by_tick in (True, False)))
        # All numbers may not be one more: the first ones would be more than the hours.
        self.check(False, check_wait, start, menu, template, step, WaitBound(hours, name, book, shapes, tuple((*row[:2], row[2] + 1) for row in rows)))
        self.check(False, check_wait, start, menu, template, step, WaitBound(hours, name, book, shapes, tuple((*row[:2], 1) for row in rows)))

    def test_hours_and_book(self):
        *question, bound = self.bound()
        hours, name, book, shapes, rows = bound.note()[1:]
        for number in (0, 1, 3, -2):
            self.check(False, check_wait, *question, WaitBound(number, name, book, shapes, rows))
        for other in ("x9", "j1", "a", None, "x1" if name == "x2" else "x2"):
            self.check(False, check_wait, *question, WaitBound(hours, other, book, shapes, rows))
        for events in ((), book[:-1], book[1:], book + (TICK,), book + book[-1:], book[:1], (TICK,) * 3, book[:1] + (("strange",),) + book[1:], ((),) + book):
            self.check(False, check_wait, *question, WaitBound(hours, name, events, shapes, rows))
        # Other books show it, too, also longer ones.
        self.check(True, check_wait, *question, WaitBound(2, "x2", (come(1, "a"), come(2, "a"), TICK, TICK), shapes, rows))
        self.check(True, check_wait, *question, WaitBound(2, "x2", (TICK, come(1, "b"), TICK, come(1, "a"), come(2, "a"), TICK, TICK), shapes, rows))
        self.check(False, check_wait, *question, WaitBound(2, "x2", (come(1, "a"), come(2, "b"), TICK, TICK), shapes, rows))
        self.check(False, check_wait, *question, WaitBound(1, "x2", (come(1, "b"), come(2, "a"), TICK), shapes, rows))

    def test_hours_that_are_too_many(self):
        # No book shows 3 hours, although numbers up to 3 would fall.
        start, menu, template, step, bound = self.bound()
        _, name, book, shapes, rows = bound.note()[1:]
        self.check(False, check_wait, start, menu, template, step, WaitBound(3, name, book, shapes, rows))
        self.check(False, check_wait, start, menu, template, step, WaitBound(3, name, book + (TICK,), shapes, rows))

    def test_a_job_that_does_not_wait(self):
        start, menu = empty(), Menu("a", many=1)
        bound = longest_wait(start, menu, "a", basic_step)
        self.assertEqual((bound.hours, bound.book), (0, (come(1, "a"),)))
        self.check(True, check_wait, start, menu, "a", basic_step, bound)
        for hours, name, book in ((0, None, ()), (0, "x1", ()), (0, None, bound.book), (0, "x2", bound.book), (1, "x1", (*bound.book, TICK)), (0, "x1", (TICK,)), (0, "x1", bound.book * 2)):
            self.check(False, check_wait, start, menu, "a", basic_step, WaitBound(hours, name, book, bound.shapes, bound.rows))

    def test_a_template_that_cannot_come(self):
        start, menu = after(empty(), ("come", "j1", "big")), Menu("a", many=1)
        bound = longest_wait(start, menu, "a", basic_step)
        self.check(True, check_wait, start, menu, "a", basic_step, bound)
        for other in (WaitBound(1, None, (), bound.shapes, ()), WaitBound(0, "x1", (), bound.shapes, ()), WaitBound(0, None, (TICK,), bound.shapes, ()), WaitBound(0, None, (), (), ()),
                      WaitBound(0, None, (), bound.shapes, ((bound.shapes[0], 0, 1),)), WaitBound(-1, None, (), bound.shapes, ())):
            self.check(False, check_wait, start, menu, "a", basic_step, other)
        self.check(False, check_wait, start, Menu("a"), "a", basic_step, bound)

    def test_rings(self):
        start, menu = empty("rank first any free"), Menu("a", "b", many=3)
        ring = longest_wait(start, menu, "a", basic_step)
        self.check(True, check_wait, start, menu, "a", basic_step, ring)
        twice = ring.ring + tuple(states_names(start, menu, ring))
        self.check(True, check_wait, start, menu, "a", basic_step, WaitRing(ring.name, ring.book, twice))
        for name, book, events in (("x9", ring.book, ring.ring), (ring.name, (), ring.ring), (ring.name, ring.book[:-1], ring.ring), (ring.name, ring.book, ()), (ring.name, ring.book, ring.ring[1:]),
                                   (ring.name, ring.book, ring.ring[:-1]), (ring.name, ring.book, (TICK,)), (ring.name, ring.book, ((),)), (ring.name, ((5,),), ring.ring),
                                   (ring.name, ring.book, ring.ring + (("strange",),))):
            made = WaitRing(name, book, events)
            self.check(right_ring(start, menu, "a", basic_step, made), check_wait, start, menu, "a", basic_step, made)
        self.check(False, check_wait, start, menu, "b", basic_step, ring)
        self.check(False, check_wait, start, Menu("a", "b"), "a", basic_step, ring)

    def test_the_simplest_ring(self):
        start, menu = empty(), Menu("big", "a", many=3, drops=True)
        for name, book, events, right in (
                ("x1", (come(1, "big"),), (TICK,), True), ("x1", (TICK, come(1, "big")), (TICK, TICK), True), ("x1", (come(1, "big"),), (come(2, "big"), ("drop", "x2"), TICK), True),
                ("x2", (come(1, "big"), come(2, "big")), (TICK,), True), ("x1", (come(1, "big"),), (), False), ("x1", (come(1, "big"),), (come(2, "big"), ("drop", "x2")), False),
                ("x1", (come(1, "big"),), (come(2, "big"), TICK), False), ("x2", (come(1, "big"), come(2, "big")), (("drop", "x1"), TICK, come(1, "big")), False),
                ("x1", (come(1, "a"), TICK, TICK, come(1, "big")), (TICK,), True), ("x1", (come(1, "a"), TICK, TICK, come(1, "big")), (TICK, TICK), True),
                ("x1", (come(1, "big"), ("drop", "x1"), come(1, "big")), (TICK,), True), ("x1", (come(1, "big"),), (("drop", "x1"), come(1, "big"), TICK), False),
                ("x1", (come(1, "a"),), (TICK,), False), ("x1", (come(1, "big"), ("drop", "x1"), come(1, "a")), (TICK,), False), ("x1", (), (TICK,), False), ("x1", (TICK,), (TICK,), False)):
            self.check(right, check_wait, start, menu, "big", basic_step, WaitRing(name, book, events))
        # A job that was there before did not come in the book.
        there = after(empty(), ("come", "x1", "big"))
        self.check(False, check_wait, there, menu, "big", basic_step, WaitRing("x1", (), (TICK,)))
        self.check(False, check_wait, there, menu, "big", basic_step, WaitRing("x1", (TICK,), (TICK,)))

    def test_strange_questions(self):
        *_, bound = self.bound()
        ring = longest_wait(empty(), Menu("big", many=1), "big", basic_step)
        self.check(False, check_wait, empty(), Menu("b"), "a", basic_step, bound)
        self.check(False, check_wait, empty(), Menu(), "big", basic_step, ring)
        # Without the template in the menu no job of it can come, but the question does not exist.
        self.check(False, check_wait, empty(), Menu(), "a", basic_step, WaitBound(0, None, (), (shape(empty()),), ()))
        self.check(False, check_wait, empty(), Menu("a", many=1), "b", basic_step, WaitBound(0, None, (), longest_wait(empty(), Menu("a", many=1), "a", basic_step).shapes, ()))
        self.check(False, check_wait, empty(), Menu("strange", "a"), "a", basic_step, bound)
        self.check(False, check_wait, empty(), Menu("strange"), "strange", basic_step, WaitBound(0, None, (), (shape(empty()),), ()))
        self.check(False, check_wait, empty(), Menu("strange"), "strange", basic_step, WaitRing("x1", (come(1, "strange"),), (TICK,)))
        self.check(False, check_wait, empty(), Menu("a", "b", failures=1), "a", basic_step, bound)

    def test_others(self):
        for menu in (Menu("a", "b"), Menu("big", "a", many=1)):
            self.check_others((WaitBound, WaitRing), check_wait, empty(), menu, "a", basic_step)

    def test_random_changes(self):
        dice = random.Random(2)
        counts = {True: 0, False: 0}
        while min(counts.values()) < 12:
            start = State.empty(random_cluster(dice), dice.choice(POLICIES))
            names = [one.name for one in start.cluster.templates]
            menu = Menu(*dice.sample(names, dice.randrange(1, 3)), many=dice.randrange(1, 4), failures=dice.choice([0, 0, 0, 1]), early=dice.random() < 0.3, drops=dice.random() < 0.3)
            template = dice.choice(menu.templates)
            try:
                found = longest_wait(start, menu, template, failing_step, most=30)
            except TooWide:
                continue
            if counts[found.holds()] < 30:
                self.check(True, check_wait, start, menu, template, failing_step, found)
                right = right_bound if found.holds() else right_ring
                self.check_altered(found, check_wait, (start, menu, template, failing_step), lambda one: right(start, menu, template, failing_step, one), dice, 12)
            counts[found.holds()] += 1


def states_names(start, menu, ring):
    """The events of a ring once more, behind the ring itself, with the names of the jobs that come then."""
    now = states_of(start, menu, basic_step, ring.book + ring.ring)[-1]
    events = []
    for event in ring.ring:
        event = [one for one in menu(now) if one[0] == event[0] and one[2:] == event[2:] and (one[0] == "come" or one == event)][0]
        events.append(event)
        now, _ = basic_step(now, event)
    return events


def right_pairs(start, other, menu, step, found):
    """Tell by the words of point 78 whether a PairTable or a PairBook is right."""
    fits = found.relation == "harmless" if isinstance(other, tuple) else found.relation in ("alike", "never-later")
    if not fits:
        return False
    left, right = slow.two_beginnings(found.relation, start, other, step)
    if isinstance(found, PairTable):
        wanted = rows_by_hand(left[0], right[0], menu, step)
        holds = {"alike": alike, "never-later": never_later, "harmless": harmless}[found.relation](start, other, menu, step).holds()
        return holds and len(found.rows) == len(wanted) and set(found.rows) == wanted
    for at, event in enumerate(found.book):
        if slow.parted_at(found.relation, left, right, menu, step, 0) == 0 or event not in slow.both(menu, left[0], right[0]):
            return False
        left, right = step(left[0], event), step(right[0], event)
    return slow.parted_at(found.relation, left, right, menu, step, 0) == 0


class PairsTest(CheckTest):
    RANK = Policy.read("rank first never free")

    def test_what_the_questions_return(self):
        for words in ("age first never free", "rank first any free"):
            for events in ((), (("come", "j1", "a"), ("come", "j2", "b"))):
                start = after(empty(words), *events)
                for menu in (Menu(), Menu("a", "b"), Menu("s", "b", many=3), Menu("a", early=True, drops=True)):
                    for policy in (self.RANK, start.policy, Policy.read("age tight owed hold")):
                        for ask in (alike, never_later):
                            self.check(True, check_pairs, start, policy, menu, basic_step, ask(start, policy, menu, basic_step))
                    for event in (TICK, ("come", "j3", "s"), ("policy", "short", "first", "any", "free")):
                        self.check(True, check_pairs, start, event, menu, basic_step, harmless(start, event, menu, basic_step))

    def test_rows(self):
        start, menu = after(empty(), ("come", "j1", "a")), Menu("a", "b")
        for other, ask in ((self.RANK, alike), (self.RANK, never_later), (("policy", "rank", "first", "never", "free"), harmless)):
            table = ask(start, other, menu, basic_step)
            relation, rows = table.relation, table.rows
            for others in (rows[::-1], rows[2:] + rows[:2]):
                self.check(True, check_pairs, start, other, menu, basic_step, PairTable(relation, others))
            left, right, match, begun, others_begun = rows[1]
            for others in ((), rows[1:], rows[:-1], rows + rows[:1], swapped(rows, 1, rows[0]), swapped(rows, 1, (right[:-1], left, match, begun, others_begun)),
                           swapped(rows, 1, (left, right, match[:-1], begun, others_begun)), swapped(rows, 1, (left, right, match[:-1] + (-1,), begun, others_begun)),
                           swapped(rows, 1, (left, right, match, begun[:-1], others_begun)), swapped(rows, 1, (left, right, match, begun, (2,) * len(others_begun))),
                           swapped(rows, 1, (left, right, match, tuple(1 - one for one in begun), others_begun)), rows + (((), (), (), (), ()),),
                           rows + ((left, right, match, begun, tuple(1 - one for one in others_begun)),)):
                self.check(False, check_pairs, start, other, menu, basic_step, PairTable(relation, others))

    def test_relations(self):
        start, menu = after(empty(), ("come", "j1", "a")), Menu("b")
        rows = alike(start, self.RANK, menu, basic_step).rows
        for relation, right in (("alike", True), ("never-later", True), ("harmless", False), ("like", False), ("strange", False)):
            self.check(right, check_pairs, start, self.RANK, menu, basic_step, PairTable(relation, rows))
        event = ("policy", "rank", "first", "never", "free")
        rows = harmless(start, event, menu, basic_step).rows
        for relation, right in (("alike", False), ("never-later", False), ("harmless", True), ("strange", False)):
            self.check(right, check_pairs, start, event, menu, basic_step, PairTable(relation, rows))

    def test_relations_of_books(self):
        start, menu = empty("rank first any free"), Menu("a", "b")
        book = (come(1, "a"), come(2, "b"))
        for relation, right in (("alike", True), ("never-later", True), ("harmless", False), ("strange", False)):
            self.check(right, check_pairs, start, self.RANK, menu, basic_step, PairBook(relation, book))
        event = ("policy", "rank", "first", "never", "free")
        for relation, right in (("alike", False), ("never-later", False), ("harmless", True), ("strange", False)):
            self.check(right, check_pairs, start, event, menu, basic_step, PairBook(relation, book))

    def test_a_relation_that_does_not_hold(self):
        start, menu = empty("rank first any free"), Menu("a", "b")
        for relation in ("alike", "never-later"):
            rows = tuple(rows_by_hand(start, after(start, ("policy", "rank", "first", "never", "free")), menu, basic_step))
            self.check(False, check_pairs, start, self.RANK, menu, basic_step, PairTable(relation, rows))
        # The beginning alone shows it, and no event follows it that would.
        waits = self.unsettled()
        left, right = slow.two_beginnings("alike", waits, self.RANK, basic_step)
        rows = tuple(rows_by_hand(left[0], right[0], Menu(), basic_step))
        self.check(False, check_pairs, waits, self.RANK, Menu(), basic_step, PairTable("alike", rows))
        self.check(False, check_pairs, waits, self.RANK, Menu(), basic_step, PairTable("never-later", rows))

    def unsettled(self):
        """A state with a policy by which a settling throws a job out for one that waits."""
        jobs = after(empty("rank first never free"), ("come", "j1", "a"), ("come", "j2", "b")).jobs
        return State(ONE, Policy.read("rank first any free"), 0, (), (), (), jobs)

    def test_books(self):
        start, menu = empty("rank first any free"), Menu("a", "b", many=3)
        for book, right in (
                ((come(1, "a"), come(2, "b")), True), ((TICK, come(1, "a"), come(2, "b")), True), ((come(1, "a"), TICK, come(2, "b")), True), ((), False), ((come(1, "a"),), False),
                ((come(1, "a"), come(2, "b"), TICK), False), ((come(1, "a"), come(2, "b"), come(3, "b")), False), ((come(1, "a"), come(3, "b")), False), ((come(1, "b"), come(2, "b")), False),
                ((come(1, "a"), TICK, TICK, come(2, "b")), False), ((come(1, "a"), ("come", "j2", "b")), False), (((),), False), (((5, 5, 5),), False), ((come(1, "s"),), False),
                ((come(1, "a"), TICK, TICK, come(1, "a"), come(2, "b")), True)):
            self.check(right, check_pairs, start, self.RANK, menu, basic_step, PairBook("never-later", book))
        self.check(False, check_pairs, start, start.policy, menu, basic_step, PairBook("never-later", (come(1, "a"), come(2, "b"))))

    def test_empty_books(self):
        waits = self.unsettled()
        for relation in ("alike", "never-later"):
            self.check(True, check_pairs, waits, self.RANK, Menu("strange"), basic_step, PairBook(relation, ()))
            self.check(False, check_pairs, waits, self.RANK, Menu(), basic_step, PairBook(relation, (TICK,)))
            self.check(False, check_pairs, empty(), self.RANK, Menu(), basic_step, PairBook(relation, ()))
        self.check(False, check_pairs, waits, TICK, Menu(), basic_step, PairBook("harmless", ()))

    def test_common_events(self):
        # The menu must let the event in both states, with a name that neither has.
        start = empty()
        event = ("come", "x1", "b")
        found = harmless(start, event, Menu("b"), basic_step)
        self.assertEqual(found.book, (come(2, "b"),))
        self.check(True, check_pairs, start, event, Menu("b"), basic_step, found)
        self.check(False, check_pairs, start, event, Menu("b"), basic_step, PairBook("harmless", (come(1, "b"),)))
        self.check(False, check_pairs, start, event, Menu("b"), basic_step, PairBook("harmless", (come(3, "b"),)))
        self.check(False, check_pairs, start, event, Menu("b", many=1), basic_step, found)

    def test_strange_questions(self):
        start, menu = empty(), Menu("a")
        rows = alike(start, self.RANK, menu, basic_step).rows
        for event in (("drop", "j1"), ("come", "j1", "strange"), ("fail", "m1"), ("strange",), ("early", "x1")):
            self.check(False, check_pairs, start, event, menu, basic_step, PairTable("harmless", rows))
            self.check(False, check_pairs, start, event, menu, basic_step, PairBook("harmless", ()))
        for wrong in (Menu("strange"), Menu("a", "strange"), Menu("a", failures=1)):
            for relation in ("alike", "never-later"):
                self.check(False, check_pairs, start, self.RANK, wrong, basic_step, PairTable(relation, rows))
            self.check(False, check_pairs, start, TICK, wrong, basic_step, PairTable("harmless", rows))
        self.check(False, check_pairs, start, self.RANK, Menu("strange"), basic_step, PairBook("alike", (come(1, "strange"),)))

    def test_others(self):
        start = after(empty(), ("come", "j1", "a"))
        for other in (self.RANK, TICK, ("drop", "strange")):
            self.check_others((PairTable, PairBook), check_pairs, start, other, Menu("a"), basic_step)

    def test_random_changes(self):
        dice = random.Random(3)
        counts = {True: 0, False: 0}
        while min(counts.values()) < 15:
            start = last_state(dice, 6, CALM)
            names = [one.name for one in start.cluster.templates]
            menu = Menu(*dice.sample(names, dice.randrange(1, 3)), many=min(max(1, len(start) + dice.randrange(2)), 12), early=dice.random() < 0.3, drops=dice.random() < 0.3)
            other = dice.choice([dice.choice(POLICIES), dice.choice(POLICIES), ("come", "new", names[0]), TICK])
            ask = harmless if isinstance(other, tuple) else dice.choice([alike, never_later])
            try:
                found = ask(start, other, menu, failing_step, most=30)
            except (TooWide, Unknown):
                continue
            if counts[found.holds()] < 40:
                self.check(True, check_pairs, start, other, menu, failing_step, found)
                self.check_altered(found, check_pairs, (start, other, menu, failing_step), lambda one: right_pairs(start, other, menu, failing_step, one), dice, 12)
            counts[found.holds()] += 1


if __name__ == "__main__":
    unittest.main()
