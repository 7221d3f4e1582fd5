"""Points 7 and 8: notes, their texts, and the kinds of certificates."""

import itertools
import random
import re
import unittest

from gangbooks.errors import BadNote
from gangbooks.notes import Certificate, No, Yes, read_note, write_note
from tests.support import refuse

GREATEST = int("9" * 200)
PAIRS = [
    (("a", (1, -2), None, ()), "(a (1 -2) - ())"),
    (("x", None, (7,)), "(x - (7))"),
    (None, "-"),
    ((), "()"),
    (0, "0"),
    (7, "7"),
    (-7, "-7"),
    (10, "10"),
    (-100, "-100"),
    (GREATEST, "9" * 200),
    (-GREATEST, "-" + "9" * 200),
    (10 ** 199, "1" + "0" * 199),
    ("a", "a"),
    ("z9-:", "z9-:"),
    ("a-", "a-"),
    ("a:b-c:d", "a:b-c:d"),
    ("abcdefghijklmnopqrstuvwx", "abcdefghijklmnopqrstuvwx"),
    ("y" * 24, "y" * 24),
    ((None,), "(-)"),
    ((None, None), "(- -)"),
    ((0, 0), "(0 0)"),
    (((),), "(())"),
    (((), ()), "(() ())"),
    ((((1,), "b"), -3), "(((1) b) -3)"),
]


def nested(depth):
    note = ()
    for _ in range(depth - 1):
        note = (note,)
    return note


def short_texts(signs, most):
    """All texts of notes over these characters, brackets and spaces, of at most this length."""
    items = {}
    rows = {}
    for many in range(1, most + 1):
        plain = ["".join(parts) for parts in itertools.product(signs, repeat=many)]
        found = {text for text in plain if re.fullmatch("a[a10-]*|0|-?1[10]*|-", text)}
        items[many] = found | {"(" + row + ")" for row in rows.get(many - 2, [])}
        if many == 2:
            items[many].add("()")
        rows[many] = items[many] | {
            one + " " + two for left in range(1, many - 1)
            for one in items[left] for two in rows.get(many - 1 - left, [])}
    return set().union(*items.values())


class WriteTest(unittest.TestCase):
    def test_texts(self):
        for note, text in PAIRS:
            self.assertEqual(write_note(note), text)

    def test_depth(self):
        self.assertEqual(write_note(nested(100)), "(" * 100 + ")" * 100)
        self.assertEqual(write_note(nested(120)), "(" * 120 + ")" * 120)

    def test_somewhat_beyond_the_limits(self):
        self.assertEqual(write_note(10 ** 220), "1" + "0" * 220)
        self.assertEqual(write_note(("b" * 30,)), "(" + "b" * 30 + ")")


class ReadTest(unittest.TestCase):
    def test_notes(self):
        for note, text in PAIRS:
            self.assertEqual(read_note(text), note)
            self.assertIs(type(read_note(text)), type(note))

    def test_kinds_of_parts(self):
        note = read_note("(a (1 -2) - ())")
        self.assertEqual([type(part) for part in note], [str, tuple, type(None), tuple])
        self.assertEqual([type(part) for part in note[1]], [int, int])

    def test_depth(self):
        self.assertEqual(read_note("(" * 100 + ")" * 100), nested(100))
        deep = read_note("(1 " + "(" * 99 + "x" + ")" * 99 + " 2)")
        self.assertEqual((deep[0], deep[2]), (1, 2))

    def test_written_notes_are_read_again(self):
        source = random.Random(3)

        def make(depth):
            kind = source.randrange(4 if depth else 3)
            if kind == 0:
                return source.randint(-10 ** source.randint(1, 40), 10 ** source.randint(1, 40))
            if kind == 1:
                return source.choice("abz") + "".join(source.choice("az09-:") for _ in range(source.randint(0, 23)))
            return None if kind == 2 else tuple(make(depth - 1) for _ in range(source.randint(0, 4)))

        for _ in range(300):
            note = make(5)
            self.assertEqual(read_note(write_note(note)), note)


class WrongTextTest(unittest.TestCase):
    def refuse_at(self, text, at):
        refuse(self, BadNote, at, read_note, text)

    def test_first_character(self):
        for text in ("A", " ", ")", ":a", "_", "+1", " a", "\n", ".", "~", "\"a\"", "]", "A(1)", ") (", "/", "`", "{"):
            self.refuse_at(text, 0)

    def test_middle_character(self):
        self.refuse_at("(a  b)", 3)
        self.refuse_at("( a)", 1)
        self.refuse_at("(a\nb)", 2)
        self.refuse_at("(a,b)", 2)
        self.refuse_at("(a B)", 3)
        self.refuse_at("(a +1)", 3)
        self.refuse_at("(a(b))", 2)
        self.refuse_at("((a)(b))", 4)
        self.refuse_at("(1-2)", 2)
        self.refuse_at("(- -- -)", 4)
        self.refuse_at("(12a 3)", 3)
        self.refuse_at("(1: 3)", 2)
        self.refuse_at("(aBc)", 2)
        self.refuse_at("(a b.c d)", 4)
        self.refuse_at("(-a)", 2)
        self.refuse_at("(-( ))", 2)

    def test_last_character(self):
        self.refuse_at("(a b]", 4)
        self.refuse_at("(a )", 3)
        self.refuse_at("( )", 1)
        self.refuse_at("()) ", 2)
        self.refuse_at("(a b) ", 5)
        self.refuse_at("(a b))", 5)
        self.refuse_at("(a b)\n", 5)
        self.refuse_at("abc ", 3)
        self.refuse_at("abC", 2)
        self.refuse_at("12x", 2)
        self.refuse_at("-)", 1)
        self.refuse_at("--", 1)
        self.refuse_at("- ", 1)

    def test_only_one_note_outside_of_brackets(self):
        self.refuse_at("a b", 1)
        self.refuse_at("1 2", 1)
        self.refuse_at("- 2", 1)
        self.refuse_at("() ()", 2)
        self.refuse_at("()()", 2)

    def test_numbers(self):
        self.refuse_at("01", 1)
        self.refuse_at("00", 1)
        self.refuse_at("-0", 1)
        self.refuse_at("-01", 1)
        self.refuse_at("(0 01)", 4)
        self.refuse_at("(5 -0)", 4)
        self.refuse_at("0x", 1)
        self.refuse_at("1.5", 1)
        self.refuse_at("1_0", 1)

    def test_longest_numbers_and_words(self):
        self.refuse_at("1" * 201, 200)
        self.refuse_at("-" + "1" * 201, 201)
        self.refuse_at("(" + "1" * 201 + ")", 201)
        self.refuse_at("(7 -" + "1" * 300, 204)
        self.refuse_at("a" * 25, 24)
        self.refuse_at("(b " + "a" * 25 + ")", 27)
        self.refuse_at("a" * 24 + "-", 24)
        self.refuse_at("a" * 24 + ":", 24)

    def test_deepest_tuples(self):
        self.refuse_at("(" * 101 + ")" * 101, 100)
        self.refuse_at("(" * 101, 100)
        self.refuse_at("(" * 300, 100)
        self.refuse_at("(" * 100 + "a (", 102)
        self.refuse_at("(a " + "(" * 99 + ")" * 99 + " " + "(" * 100, 3 + 198 + 1 + 99)

    def test_text_that_breaks_off(self):
        for text in ("", "(", "(a", "(a ", "(a (1 -2)", "(a (1 -2) -", "(a (1 -2) - (", "(-", "(1", "(-1", "((", "(()",
                     "(a b-", "(" * 100, "(" * 100 + ")" * 99, "(" + "1" * 200, "(" + "c" * 24):
            self.refuse_at(text, len(text))

    def test_the_first_wrong_character_counts(self):
        self.refuse_at("(a  (B) 01", 3)
        self.refuse_at("A B", 0)

    def test_every_prefix_of_a_note_is_right_so_far(self):
        for _, text in PAIRS:
            for end in range(len(text)):
                try:
                    read_note(text[:end])
                except BadNote as error:
                    self.assertEqual(error.subject, end)

    def test_reading_against_a_list_of_all_short_texts(self):
        whole = short_texts("a1-0", 6)
        starts = {text[:end] for text in whole for end in range(len(text) + 1)}
        # Each right beginning of up to three characters is that of a text of at most six.
        for many in range(4):
            for signs in itertools.product("a1-0( )A", repeat=many):
                text = "".join(signs)
                if text in whole:
                    self.assertEqual(write_note(read_note(text)), text)
                else:
                    at = min([end for end in range(len(text)) if text[:end + 1] not in starts], default=len(text))
                    self.refuse_at(text, at)


class KindsTest(unittest.TestCase):
    def test_yes_and_no(self):
        self.assertIs(Yes().holds(), True)
        self.assertIs(No().holds(), False)

    def test_classes_of_certificates_can_have_both_bases(self):
        class Shown(Certificate, Yes):
            pass

        class Refuted(Certificate, No):
            pass

        self.assertEqual([Shown().holds(), Refuted().holds()], [True, False])
        self.assertFalse(issubclass(Yes, No) or issubclass(No, Yes))


if __name__ == "__main__":
    unittest.main()
