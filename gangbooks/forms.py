"""The forms of the notes of certificates."""

from math import gcd

# For the word of each class the forms of the items behind it: i is an integer, w a word, s a share as a pair,
# t any tuple and - None; x|y is one of two forms, (x y) a tuple of just these items, x* one of any number of x.
FORMS = {
    "shortage": ("(i i)", "i", "i", "(i i|w)*"),
    "packing": ("(i*)*",),
    "tree": ("t",),
    "levels": ("i", "s", "i*", "s*", "(i w s|-)*"),
    "floors": ("(i* (i*)*)*",),
    "crowded": ("i*", "t"),
    "settled": ("t*", "t*", "(w i i*)|-"),
    "quote": ("i", "i", "(i*)*", "(i i (i i|w)*)*"),
    "no-quote": ("i", "(i i (i i|w)*)*"),
    "blockers": ("i", "i", "(w i (i i|w)*)*"),
    "survival": ("(i* (i*)*)*",),
    "frail": ("i*", "t"),
    "moves": ("i", "(w i*)*"),
    "stuck": ("i", "((i*)*)*"),
    "kept": ("(i|w)*", "(t i i)*"),
    "broken": ("(i|w)*", "((i|w)*)*"),
    "wait": ("i", "w|-", "((i|w)*)*", "t*", "(t i i)*"),
    "ring": ("w", "((i|w)*)*", "((i|w)*)*"),
    "pairs": ("w", "(t t i* i* i*)*"),
    "parted": ("w", "((i|w)*)*"),
}


def has_form(note, text):
    """Tell whether a note has the form that a text tells."""
    form, _ = read_choice(text, 0)
    return fits(note, form)


def read_choice(text, at):
    """Return the form of one or more forms with | between them that begins at this index, and the index behind it."""
    form, at = read_repeated(text, at)
    choices = [form]
    while text[at:at + 1] == "|":
        form, at = read_repeated(text, at + 1)
        choices.append(form)
    return (form if len(choices) == 1 else ("|", *choices)), at


def read_repeated(text, at):
    """Return the form, with its stars, that begins at this index, and the index behind it."""
    if text[at] == "(":
        form, at = read_row(text, at)
    else:
        form, at = text[at], at + 1
    while text[at:at + 1] == "*":
        form, at = ("*", form), at + 1
    return form, at


def read_row(text, at):
    """Return the form whose bracket stands at this index, and the index behind the other one."""
    form, at = read_choice(text, at + 1)
    items = [form]
    while text[at] == " ":
        form, at = read_choice(text, at + 1)
        items.append(form)
    # Brackets around one form alone only hold it together.
    return (form if len(items) == 1 else ("(", *items)), at + 1


def fits(note, form):
    """Tell whether a note has a form."""
    if isinstance(form, str):
        return fits_letter(note, form)
    mark, *parts = form
    if mark == "|":
        return any([fits(note, part) for part in parts])
    if not isinstance(note, tuple):
        return False
    if mark == "*":
        return all([fits(item, parts[0]) for item in note])
    return len(note) == len(parts) and all([fits(item, part) for item, part in zip(note, parts)])


def fits_letter(note, letter):
    """Tell whether a note has the form of a single letter."""
    if letter == "i":
        return isinstance(note, int)
    if letter == "w":
        return isinstance(note, str)
    if letter == "-":
        return note is None
    if letter == "t":
        return isinstance(note, tuple)
    return fits(note, ("(", "i", "i")) and note[1] > 0 and gcd(note[0], note[1]) == 1
