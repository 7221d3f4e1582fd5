"""The texts of certificates."""

from gangbooks.errors import BadCertificate
from gangbooks.failing import Frail, Survival
from gangbooks.fitting import Shortage
from gangbooks.forms import FORMS, has_form
from gangbooks.levels import Levels
from gangbooks.lots import Crowded, FloorPlan
from gangbooks.moving import MovePlan, Stuck
from gangbooks.notes import read_note, write_note
from gangbooks.packing import CaseTree, Packing
from gangbooks.pairs import PairBook, PairTable
from gangbooks.promises import Broken, Kept
from gangbooks.reserve import Blockers, NoQuote, Quote
from gangbooks.settle import Settlement
from gangbooks.shares import Share
from gangbooks.waits import WaitBound, WaitRing


def certificate_text(certificate):
    """Return the text of a certificate's note."""
    return write_note(certificate.note())


def share_of(pair):
    """Return the share that a pair stands for in a note."""
    top, bottom = pair
    return Share(top, bottom)


def levels_of(resource, amount, wanted, shares, rows):
    """Return the Levels with these items of a note, in which pairs stand for shares."""
    made = tuple([(group, mode, None if level is None else share_of(level)) for group, mode, level in rows])
    return Levels(resource, share_of(amount), wanted, tuple([share_of(pair) for pair in shares]), made)


def made_yes(word, items):
    """Return the certificate of this word and these items if its class is one of Yes."""
    if word == "packing":
        return Packing(*items)
    if word == "levels":
        return levels_of(*items)
    if word == "floors":
        return FloorPlan(*items)
    if word == "settled":
        return Settlement(*items, None)
    if word == "quote":
        return Quote(*items)
    if word == "blockers":
        return Blockers(*items)
    if word == "survival":
        return Survival(*items)
    if word == "moves":
        return MovePlan(*items)
    if word == "kept":
        return Kept(*items)
    if word == "wait":
        return WaitBound(*items)
    if word == "pairs":
        return PairTable(*items)
    return made_no(word, items)


def made_no(word, items):
    """Return the certificate of this word and these items if its class is one of No."""
    if word == "shortage":
        return Shortage(*items)
    if word == "tree":
        return CaseTree(*items)
    if word == "crowded":
        return Crowded(*items)
    if word == "no-quote":
        return NoQuote(*items)
    if word == "frail":
        return Frail(*items)
    if word == "stuck":
        return Stuck(*items)
    if word == "broken":
        return Broken(*items)
    if word == "ring":
        return WaitRing(*items)
    return PairBook(*items)


def word_of(note):
    """Return the word of a class that a note begins with, or None."""
    if not isinstance(note, tuple) or note == () or not isinstance(note[0], str):
        return None
    return note[0] if note[0] in FORMS else None


def read_certificate(text):
    """Return a certificate with this text; a Settlement then has no state after it."""
    note = read_note(text)
    word = word_of(note)
    if word is None:
        raise BadCertificate(None)
    _, *items = note
    forms = FORMS[word]
    if len(items) != len(forms) or not all([has_form(item, form) for item, form in zip(items, forms)]):
        raise BadCertificate(word)
    return made_yes(word, items)
