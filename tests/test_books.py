"""Point 60: books and their texts."""

import random
import unittest

from gangbooks.books import Book
from gangbooks.errors import BadEvent, BadLine, NoEvent
from tests.support import refuse
from tests.worlds import ROUGH, random_book

EVENTS = [("come", "j1", "a"), ("tick",), ("reserve", "r1", "big", 12), ("policy", "rank", "first", "any", "free")]
TEXT = "come j1 a\ntick\nreserve r1 big 12\npolicy rank first any free"


class BookTest(unittest.TestCase):
    def check(self, book, events):
        self.assertIs(type(book), Book)
        self.assertEqual(list(book), events)
        self.assertEqual(len(book), len(events))
        self.assertEqual([book[k] for k in range(len(book))], events)
        self.assertTrue(book == Book(events))

    def test_events(self):
        self.check(Book(EVENTS), EVENTS)
        self.check(Book([]), [])
        self.check(Book([("tick",), ("tick",)]), [("tick",), ("tick",)])

    def test_the_list_is_copied(self):
        events = list(EVENTS)
        book = Book(events)
        events.append(("tick",))
        events[0] = ("tick",)
        self.check(book, EVENTS)

    def test_text(self):
        self.assertEqual(Book(EVENTS).text(), TEXT)
        self.assertEqual(Book([]).text(), "")
        self.assertEqual(Book([("tick",)]).text(), "tick")
        self.check(Book.read(TEXT), EVENTS)
        self.check(Book.read(""), [])
        self.check(Book.read("tick"), [("tick",)])

    def test_random_books(self):
        dice = random.Random(60)
        for _ in range(10):
            events = [event for _, event, _, _ in random_book(dice, 20, ROUGH)]
            self.check(Book.read(Book(events).text()), events)

    def test_bad_lines(self):
        for text, number in (
                ("\n", 1), (" ", 1), ("tick\n", 2), ("\ntick", 1), ("tick\n\ntick", 2), ("tick\ntick ", 2), ("Tick\ntack", 1),
                ("tick\ncome a\ncome b", 2), (TEXT + "\ncancel m 0123", 5), (TEXT + "\ncancel m 1234567", 5), ("tick\n\n", 2)):
            error = refuse(self, BadLine, number, Book.read, text)
            self.assertIs(type(error.__cause__), BadEvent)
            self.assertEqual(error.__cause__.subject, text.split("\n")[number - 1])

    def test_sums(self):
        one, other = Book(EVENTS[:3]), Book(EVENTS[2:])
        self.check(one + other, EVENTS[:3] + EVENTS[2:])
        self.check(other + one, EVENTS[2:] + EVENTS[:3])
        self.check(one + Book([]), EVENTS[:3])
        self.check(Book([]) + Book([]), [])
        self.check(one, EVENTS[:3])
        self.check(other, EVENTS[2:])

    def test_equality(self):
        self.assertTrue(Book(EVENTS) == Book(tuple(EVENTS)))
        self.assertFalse(Book(EVENTS) == Book(EVENTS[:-1]))
        self.assertFalse(Book(EVENTS) == Book(EVENTS[::-1]))
        self.assertTrue(Book(EVENTS) != Book([]))
        self.assertFalse(Book(EVENTS) == EVENTS)
        self.assertFalse(Book([]) == "")

    def test_first(self):
        for n in range(5):
            self.check(Book(EVENTS).first(n), EVENTS[:n])
        self.check(Book([]).first(0), [])
        for n in (-1, -4, 5, 6):
            refuse(self, NoEvent, n, Book(EVENTS).first, n)
        refuse(self, NoEvent, 1, Book([]).first, 1)

    def test_without(self):
        book = Book(EVENTS)
        for at in range(4):
            self.check(book.without(at), EVENTS[:at] + EVENTS[at + 1:])
        for at in (-1, -4, 4, 5):
            refuse(self, NoEvent, at, book.without, at)
        refuse(self, NoEvent, 0, Book([]).without, 0)
        self.check(book, EVENTS)

    def test_put(self):
        book = Book(EVENTS)
        for at in range(5):
            self.check(book.put(at, ("drop", "x")), EVENTS[:at] + [("drop", "x")] + EVENTS[at:])
        for at in (-1, -4, 5, 6):
            refuse(self, NoEvent, at, book.put, at, ("tick",))
        self.check(Book([]).put(0, ("tick",)), [("tick",)])
        refuse(self, NoEvent, 1, Book([]).put, 1, ("tick",))
        self.check(book, EVENTS)


if __name__ == "__main__":
    unittest.main()
