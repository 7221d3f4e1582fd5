"""Points 8, 75 and 76: the notes of the certificates and their texts."""

import random
import unittest

from gangbooks.certificates import certificate_text, read_certificate
from gangbooks.errors import BadCertificate, BadNote
from gangbooks.failing import Frail, Survival
from gangbooks.fitting import Shortage
from gangbooks.levels import Levels
from gangbooks.lots import Crowded, FloorPlan
from gangbooks.moving import MovePlan, Stuck
from gangbooks.notes import Certificate, No, Yes, read_note, write_note
from gangbooks.packing import CaseTree, Packing
from gangbooks.pairs import PairBook, PairTable
from gangbooks.promises import Broken, Kept
from gangbooks.reserve import Blockers, NoQuote, Quote
from gangbooks.settle import Settlement
from gangbooks.shares import Share
from gangbooks.waits import WaitBound, WaitRing
from tests.support import refuse

BIG = 10 ** 199
# For each form of an item: notes that have it, and notes that do not.
FORMS = {
    "i": ([0, -7, BIG], [None, "a", (), (1,)]),
    "w": (["a", "m1-b:c"], [None, 1, (), ("a",)]),
    "w|-": ([None, "x1"], [0, (), ("x1",)]),
    "t": ([(), (1, "a", None, ((),))], [None, 0, "a"]),
    "s": ([(0, 1), (-3, 4), (BIG, 1)], [
        None, 1, "a", (), (1,), (1, 2, 3), (1, "a"), (None, 1), ((1, 2), 1), (0, 2), (2, 4), (-2, 2), (1, 0), (0, 0), (1, -2), (0, -1), (3, 0)]),
    "i*": ([(), (0,), (-1, BIG, 3)], [None, 1, "a", ("a",), (1, None), (1, (2,)), ((),)]),
    "s*": ([(), ((1, 2),), ((0, 1), (-5, 3))], [None, 0, "a", (1, 2), ((2, 4),), ((1, 2), (1,)), ((1, 2), None), ((1, 2), 3)]),
    "t*": ([(), ((),), (("stays", "j"), (1, (2, None)))], [None, 0, "a", (1,), ("a",), ((), None)]),
    "i i": ([(0, 0), (-1, BIG)], [None, 0, "a", (), (1,), (1, 2, 3), (1, "a"), ("a", 1), (1, None), ((1, 2),)]),
    "(i i|w)*": ([(), ((2, 0),), ((0, "barred"), (-1, -1))], [
        None, 0, "a", ((),), ((1,),), ((1, 2, 3),), (("a", 1),), ((1, None),), ((1, (2,)),), (1, 2), ((0, 0), None)]),
    "(i*)*": ([(), ((),), ((1, 2), (-3,))], [None, 0, "a", (1,), (("a",),), ((1,), 2), ((1, None),), (((),),)]),
    "(i* (i*)*)*": ([(), (((), ()),), (((1, 2), ((3,), ())), ((0,), ((1, 2),)))], [
        None, 0, "a", ((),), (((),),), (((), (), ()),), ((1, ()),), (((), 1),), (((), (1,)),), ((("a",), ()),), (((), (("a",),)),), ((((),), ()),)]),
    "(i w s|-)*": ([(), ((-1, "all", None),), ((0, "above", (1, 2)), (3, "x", (0, 1)))], [
        None, 0, "a", ((),), ((0, "all"),), ((0, "all", None, 0),), (("a", "all", None),), ((0, 1, None),), ((0, "all", 1),), ((0, "all", (2, 4)),),
        ((0, "all", "a"),), ((0, "all", ()),), ((None, "all", None),)]),
    "(w i i*)|-": ([None, ("j", 3, ()), ("j", -1, (0, 2))], [
        0, "a", (), ("j",), ("j", 3), ("j", 3, (), ()), (1, 3, ()), ("j", "k", ()), ("j", 3, 1), ("j", 3, ("a",)), ("j", 3, None), (("j", 3, ()),)]),
    "(i i (i i|w)*)*": ([(), ((1, 2, ()),), ((-1, 0, ((1, "a"), (2, 3))),)], [
        None, 0, "a", ((),), ((1, 2),), ((1, 2, (), ()),), (("a", 2, ()),), ((1, "a", ()),), ((1, 2, 3),), ((1, 2, None),), ((1, 2, ((1,),)),), ((1, 2, (1, 2)),)]),
    "(w i (i i|w)*)*": ([(), (("j", 2, ()),), (("j", 0, ((1, "a"), (2, 3))),)], [
        None, 0, "a", ((),), (("j", 2),), (("j", 2, (), ()),), ((1, 2, ()),), (("j", "a", ()),), (("j", 2, 3),), (("j", 2, ((1,),)),), (("j", 2, ((None, 1),)),)]),
    "(w i*)*": ([(), (("j", ()),), (("j", (1, -2)), ("k", (0,)))], [
        None, 0, "a", ((),), (("j",),), (("j", (), ()),), ((1, ()),), (("j", 1),), (("j", ("a",)),), (("j", None),), ("j", (1,))]),
    "((i*)*)*": ([(), ((),), (((1, 2), ()), ((0,),))], [None, 0, "a", (1,), ((1,),), ((("a",),),), (((1,), 2),), ((((),),),), (None,)]),
    "(i|w)*": ([(), (1,), ("begins", "j", -3)], [None, 0, "a", (None,), ((),), ("a", (1,))]),
    "((i|w)*)*": ([(), ((),), (("come", "x1", "a"), ("tick",), (1,))], [None, 0, "a", (1,), ("tick",), ((None,),), (((),),), ((), "tick")]),
    "(t i i)*": ([(), (((), 1, -1),), (((1, (None,)), 0, 0), ((), 2, 3))], [
        None, 0, "a", ((),), (((), 1),), (((), 1, 2, 3),), ((1, 1, 1),), (((), "a", 1),), (((), 1, None),), ((None, 1, 1),), ((), 1, 1)]),
    "(t t i* i* i*)*": ([(), (((), (), (), (), ()),), (((1,), ("a", None), (0, -1), (1,), (0, 1)),)], [
        None, 0, "a", ((),), (((), (), (), ()),), (((), (), (), (), (), ()),), ((1, (), (), (), ()),), (((), None, (), (), ()),),
        (((), (), 1, (), ()),), (((), (), (), ("a",), ()),), (((), (), (), (), (None,)),), (((), (), (), (), ((1,),)),)]),
}
# For each class its word, its kind, its attributes and their forms.
CLASSES = (
    (Shortage, "shortage", No, "gang start end rows", ("i i", "i", "i", "(i i|w)*")),
    (Packing, "packing", Yes, "places", ("(i*)*",)),
    (CaseTree, "tree", No, "node", ("t",)),
    (Levels, "levels", Yes, "resource amount wanted shares rows", ("i", "s", "i*", "s*", "(i w s|-)*")),
    (FloorPlan, "floors", Yes, "rows", ("(i* (i*)*)*",)),
    (Crowded, "crowded", No, "lot node", ("i*", "t")),
    (Settlement, "settled", Yes, "rows deeds hold", ("t*", "t*", "(w i i*)|-")),
    (Quote, "quote", Yes, "template hour places refusals", ("i", "i", "(i*)*", "(i i (i i|w)*)*")),
    (NoQuote, "no-quote", No, "template refusals", ("i", "(i i (i i|w)*)*")),
    (Blockers, "blockers", Yes, "template hour rows", ("i", "i", "(w i (i i|w)*)*")),
    (Survival, "survival", Yes, "rows", ("(i* (i*)*)*",)),
    (Frail, "frail", No, "machines node", ("i*", "t")),
    (MovePlan, "moves", Yes, "machine moves", ("i", "(w i*)*")),
    (Stuck, "stuck", No, "machine places", ("i", "((i*)*)*")),
    (Kept, "kept", Yes, "words rows", ("(i|w)*", "(t i i)*")),
    (Broken, "broken", No, "words book", ("(i|w)*", "((i|w)*)*")),
    (WaitBound, "wait", Yes, "hours name book shapes rows", ("i", "w|-", "((i|w)*)*", "t*", "(t i i)*")),
    (WaitRing, "ring", No, "name book ring", ("w", "((i|w)*)*", "((i|w)*)*")),
    (PairTable, "pairs", Yes, "relation rows", ("w", "(t t i* i* i*)*")),
    (PairBook, "parted", No, "relation book", ("w", "((i|w)*)*")),
)


def share(pair):
    return None if pair is None else Share(*pair)


def arguments(made, items):
    """The arguments of a class for the items of its note."""
    if made is Levels:
        resource, amount, wanted, shares, rows = items
        return resource, share(amount), wanted, tuple(map(share, shares)), tuple((*row[:2], share(row[2])) for row in rows)
    return (*items, None) if made is Settlement else items


def good_items(forms, at):
    """Items of these forms, other ones for each number."""
    return tuple(FORMS[form][0][at % len(FORMS[form][0])] for form in forms)


def read_note_error(text):
    """The index that BadNote tells for a text, found by hand: that of the first bracket that is too deep."""
    depth = 0
    for at, char in enumerate(text):
        depth += {"(": 1, ")": -1}.get(char, 0)
        if depth > 100:
            return at
    return None


class CertificateTest(unittest.TestCase):
    def test_each_class_is_of_its_kind(self):
        self.assertEqual(len({made for made, *_ in CLASSES}), 20)
        for made, word, kind, attributes, forms in CLASSES:
            self.assertTrue(issubclass(made, Certificate), word)
            self.assertTrue(issubclass(made, kind), word)
            self.assertFalse(issubclass(made, No if kind is Yes else Yes), word)
            self.assertIn("note", vars(made), word)
            certificate = made(*arguments(made, good_items(forms, 0)))
            self.assertIs(certificate.holds(), kind is Yes)

    def test_notes_and_attributes(self):
        for made, word, _, attributes, forms in CLASSES:
            for at in range(6):
                items = good_items(forms, at)
                given = arguments(made, items)
                certificate = made(*given)
                self.assertEqual(certificate.note(), (word, *items))
                self.assertIsInstance(certificate.note(), tuple)
                for name, item in zip(attributes.split(), given):
                    self.assertEqual(getattr(certificate, name), item, (word, name))

    def test_arguments_are_stored_as_they_are(self):
        made = Levels(0, Share(1, 2), (1,), (Share(3),), ((-1, "above", Share(1)), (0, "all", None)))
        self.assertEqual(made.note(), ("levels", 0, (1, 2), (1,), ((3, 1),), ((-1, "above", (1, 1)), (0, "all", None))))
        state = object()
        self.assertIs(Settlement((), (), None, state).after, state)
        self.assertEqual(Settlement((), (), None, state).note(), ("settled", (), (), None))

    def test_texts(self):
        for certificate, text in (
                (Shortage((0, 1), 2, 5, ((1, 0), (0, "barred"))), "(shortage (0 1) 2 5 ((1 0) (0 barred)))"),
                (Packing(()), "(packing ())"),
                (CaseTree(("short", ((0, "needs"),))), "(tree (short ((0 needs))))"),
                (Levels(1, Share(-1, 3), (), (), ((-1, "all", None),)), "(levels 1 (-1 3) () () ((-1 all -)))"),
                (Settlement((("stays", "j"),), (), ("k", 3, (1,)), None), "(settled ((stays j)) () (k 3 (1)))"),
                (WaitBound(0, None, (), (), ()), "(wait 0 - () () ())"),
                (WaitRing("x1", (("come", "x1", "a"),), (("tick",),)), "(ring x1 ((come x1 a)) ((tick)))"),
                (NoQuote(0, ((3, 0, ((0, 1),)),)), "(no-quote 0 ((3 0 ((0 1)))))"),
                (Kept(("ends", "j", 3), ((("shape",), 0, 3),)), "(kept (ends j 3) (((shape) 0 3)))"),
                (PairBook("never-later", ()), "(parted never-later ())")):
            self.assertEqual(certificate_text(certificate), text)
            again = read_certificate(text)
            self.assertIs(type(again), type(certificate))
            self.assertEqual(certificate_text(again), text)

    def test_what_is_read_back(self):
        for made, word, _, attributes, forms in CLASSES:
            for at in range(6):
                items = good_items(forms, at)
                text = write_note((word, *items))
                again = read_certificate(text)
                self.assertIs(type(again), made)
                for name, item in zip(attributes.split(), arguments(made, items)):
                    self.assertEqual(getattr(again, name), item, (word, name))
                    self.assertIs(type(getattr(again, name)), type(item))
                self.assertEqual(again.note(), (word, *items))
                self.assertEqual(certificate_text(again), text)

    def test_shares_are_read_as_shares(self):
        levels = read_certificate("(levels 0 (7 2) (3 4) ((1 2) (3 1)) ((-1 below (1 3)) (0 all -)))")
        self.assertEqual((levels.amount, levels.shares), (Share(7, 2), (Share(1, 2), Share(3))))
        self.assertEqual(levels.rows, ((-1, "below", Share(1, 3)), (0, "all", None)))
        self.assertIsInstance(levels.shares, tuple)
        self.assertEqual(levels[1], Share(3))

    def test_a_settlement_that_is_read_has_no_state(self):
        self.assertIsNone(read_certificate("(settled () () -)").after)

    def test_items_of_another_form(self):
        for made, word, _, _, forms in CLASSES:
            for at, form in enumerate(forms):
                for wrong in FORMS[form][1]:
                    items = list(good_items(forms, at))
                    items[at] = wrong
                    refuse(self, BadCertificate, word, read_certificate, write_note((word, *items)))

    def test_too_few_or_too_many_items(self):
        for made, word, _, _, forms in CLASSES:
            items = good_items(forms, 1)
            for at in range(len(items)):
                refuse(self, BadCertificate, word, read_certificate, write_note((word, *items[:at], *items[at + 1:])))
                refuse(self, BadCertificate, word, read_certificate, write_note((word, *items[:at], items[at], *items[at:])))
            for more in (None, 0, "a", ()):
                refuse(self, BadCertificate, word, read_certificate, write_note((word, *items, more)))
            refuse(self, BadCertificate, word, read_certificate, write_note((word,)))

    def test_notes_of_no_class(self):
        for text in ("-", "0", "-5", "packing", "()", "(0 packing ())", "(- ())", "((packing ()))", "((packing) ())", "(strange ())", "(pack ())",
                     "(packings ())", "(wait: 0 - () () ())", "(state 0 () () () () ())", "(shape)", "(no quote 0 ())", "(cases)", "(short ())"):
            refuse(self, BadCertificate, None, read_certificate, text)

    def test_bad_notes_come_first(self):
        for text, at in (("", 0), ("(packing ()", 11), ("(packing ()) ", 12), ("(packing  ())", 9), ("(strange 01)", 10), ("(packing A)", 9),
                         ("(levels 0 (2 4) () () ()", 24), (")", 0), ("(packing ())(packing ())", 12), ("(packing\n())", 8)):
            refuse(self, BadNote, at, read_certificate, text)
            refuse(self, BadNote, at, read_note, text)

    def test_certificates_of_any_form_are_read(self):
        # Whether indexes, names and hours make sense is not looked at.
        for text in ("(shortage (-1 99) 5 2 ())", "(quote -3 -1 () ((7 0 ()) (2 9 ((0 zone)))))", "(moves 77 ((j-1:x (9 9 9 9 9 9 9 9))))",
                     "(kept () ((() 0 0)))", "(broken (1 2 3) (() (5) (fly away)))", "(pairs love ())", "(wait -5 - ((a)) (()) ((() -1 -9)))", "(tree ())"):
            self.assertEqual(certificate_text(read_certificate(text)), text)

    def test_deep_notes(self):
        node = ("short", ())
        for _ in range(48):
            node = ("cases", ((1,), node))
        for wide in (node, (node,)):
            text = write_note(("tree", wide))
            self.assertEqual(certificate_text(read_certificate(text)), text)
        refuse(self, BadNote, read_note_error(write_note(("tree", ((node,),)))), read_certificate, write_note(("tree", ((node,),))))

    def test_random_changes_of_texts(self):
        dice = random.Random(76)
        for _ in range(3000):
            made, word, _, _, forms = dice.choice(CLASSES)
            text = list(write_note((word, *[dice.choice(FORMS[form][0][:2]) for form in forms])))
            for _ in range(dice.randrange(1, 3)):
                at = dice.randrange(len(text))
                text[at:at + dice.randrange(2)] = dice.choice(["", "(", ")", " ", "-", "1", "a", "() ", " 1"])
            text = "".join(text)
            try:
                note = read_note(text)
            except BadNote as e:
                refuse(self, BadNote, e.subject, read_certificate, text)
                continue
            words = {word for _, word, *_ in CLASSES}
            first = note[0] if isinstance(note, tuple) and note and note[0] in words else None
            try:
                again = read_certificate(text)
            except BadCertificate as e:
                self.assertEqual(e.subject, first)
            else:
                self.assertEqual(again.note(), note)
                self.assertEqual([type(again)], [made for made, word, *_ in CLASSES if word == first])


if __name__ == "__main__":
    unittest.main()
