"""Notes: the values that stand for states and certificates, and their texts."""

from gangbooks.errors import BadNote
from gangbooks.signs import DIGITS, LETTERS

WORD_CHARS = "abcdefghijklmnopqrstuvwxyz0123456789-:"
MOST_LETTERS = 24
MOST_DIGITS = 200
DEEPEST = 100


class Certificate:
    """An object that shows an answer; each class of certificates has a method note()."""


class Yes:
    """The kind of a certificate that shows that something can be done or holds."""

    def holds(self):
        return True


class No:
    """The kind of a certificate that shows that something cannot be done or does not hold."""

    def holds(self):
        return False


def write_note(note):
    """Return the text of a note."""
    if note is None:
        return "-"
    if not isinstance(note, tuple):
        return str(note)
    # A loop, not a comprehension, so that each level takes one call only.
    texts = []
    for part in note:
        texts.append(write_note(part))
    return "(" + " ".join(texts) + ")"


def read_note(text):
    """Return the note with this text; BadNote tells its first wrong character."""
    note, at = read_part(text, 0, 0)
    if at < len(text):
        raise BadNote(at)
    return note


def read_part(text, at, depth):
    """Return the note that begins at this index, and the index behind it.

    It ends where no longer note can stand; whether something may follow there
    is for the caller to say.
    """
    if at == len(text):
        raise BadNote(at)
    if text[at] == "(":
        return read_tuple(text, at, depth + 1)
    if text[at] in LETTERS:
        end = end_of(text, at, WORD_CHARS, MOST_LETTERS)
        return text[at:end], end
    if text[at] == "-" and not begins_number(text, at + 1):
        return None, at + 1
    return read_number(text, at)


def read_tuple(text, at, depth):
    """Return the tuple whose bracket stands at this index, and the index behind it."""
    if depth > DEEPEST:
        raise BadNote(at)
    if text[at + 1:at + 2] == ")":
        return (), at + 2
    parts = []
    behind = " "
    while behind == " ":
        part, at = read_part(text, at + 1, depth)
        parts.append(part)
        behind = text[at:at + 1]
    if behind != ")":
        raise BadNote(at)
    return tuple(parts), at + 1


def read_number(text, at):
    """Return the integer that begins at this index, and the index behind it."""
    if text[at] == "0":
        return 0, at + 1
    first = at + 1 if text[at] == "-" else at
    if not begins_number(text, first):
        raise BadNote(first)
    end = end_of(text, first, DIGITS, MOST_DIGITS)
    return int(text[at:end]), end


def begins_number(text, at):
    """Tell whether a digit other than 0 stands at this index."""
    return at < len(text) and text[at] in DIGITS and text[at] != "0"


def end_of(text, at, chars, most):
    """Return the index behind those of the chars that stand from this index on, at most so many."""
    end = at
    while end < len(text) and end - at < most and text[end] in chars:
        end += 1
    return end
