"""Notes that are changed in one place, for tests of the checkers."""

from gangbooks.certificates import read_certificate
from gangbooks.errors import BadCertificate
from gangbooks.notes import write_note

WORDS = ("x1", "cases", "short", "needs", "all", "strange")


def altered(note, first=True):
    """Yield the notes that differ from this one in one place; the word of the class stays."""
    if isinstance(note, int):
        yield from (note + 1, note - 1, -note - 1, 10 ** 30 + note)
    elif isinstance(note, str):
        yield from [word for word in WORDS if word != note]
        yield note + "0"
    elif note is None:
        yield from (0, "x1", ("x1", 0, ()), (1, 1))
    else:
        start = 1 if first else 0
        for at in range(start, len(note)):
            for item in altered(note[at], False):
                yield note[:at] + (item,) + note[at + 1:]
            yield note[:at] + note[at + 1:]
            yield note[:at] + (note[at],) + note[at:]
            if at + 1 < len(note) and note[at] != note[at + 1]:
                yield note[:at] + (note[at + 1], note[at]) + note[at + 2:]
        if not first:
            yield from ((*note, 0), (*note, ()), (*note, "x1"))
            if note:
                yield from ((), None)


def sample(notes, dice, many):
    """Many of the notes at random, or all if there are not more."""
    notes = list(notes)
    return dice.sample(notes, many) if len(notes) > many else notes


def altered_certificates(certificate, dice, many):
    """Certificates with at most so many of the notes that differ in one place and have the right form."""
    made = []
    for note in sample(altered(certificate.note()), dice, many):
        try:
            made.append(read_certificate(write_note(note)))
        except BadCertificate:
            pass
    return made


# Texts of certificates of each class, most of them wrong for any question, with strange indexes, names and shapes.
STRANGE = """(shortage (0 0) 0 1 ())
(shortage (99 0) 0 1 ((0 needs)))
(shortage (-1 -1) 5 2 ((7 zone)))
(shortage (0 99) -3 1 ((1 0)))
(packing ())
(packing (() () () () () () () () () () () () ()))
(packing ((-1 2) (9 9 9 9 9 9 9)))
(tree ())
(tree (cases))
(tree (short))
(tree (short ()))
(tree (short 5))
(tree (cases 5))
(tree (cases (5 5)))
(tree (cases ((0) -)))
(tree (cases ((1) (short ()) 0)))
(tree ((cases) short))
(tree (((((()))))))
(levels 0 (0 1) () () ())
(levels 99 (-3 1) (1 2 3) ((1 2)) ((99 all -) (-1 below (1 3))))
(levels -1 (5 1) (0) ((5 1)) ((-1 strange -)))
(floors ())
(floors (((1) ((1))) ((-5 7) ())))
(crowded () ())
(crowded (1000000) (cases))
(crowded (-1) (short ()))
(settled () () -)
(settled ((rooms x1 5)) (()) (x1 3 (1 1)))
(quote 0 0 () ())
(quote 99 5 ((1)) ())
(quote -1 -1 ((-1)) ((-3 0 ())))
(quote 0 100000000000000000000000000 ((1 0)) ())
(quote 0 3 ((1)) ((2 99 ((0 needs)))))
(no-quote 0 ())
(no-quote 99 ((0 0 ())))
(no-quote 0 ((1000000000000000000000 -1 ((0 0)))))
(blockers 0 0 ())
(blockers 0 100000000000000000000000000 ())
(blockers 99 1 ((x1 0 ())))
(blockers -1 -1 ((strange 99 ((7 zone)))))
(survival ())
(survival (((0) ()) ((-1 99) ((1)))))
(survival ((() ())))
(frail () ())
(frail () (short ()))
(frail (0 0) (cases))
(frail (99) (short ((0 needs))))
(frail (-1) ())
(moves 0 ())
(moves 99 ())
(moves -1 ((strange (1))))
(moves 0 ((x1 ()) (x1 (1)) (j1 (-1 2 3 4 5 6 7 8))))
(stuck 0 ())
(stuck 99 (()))
(stuck -1 ((())))
(stuck 0 (()))
(stuck 0 ((()) ((1)) ((1) (1))))
(kept () ())
(kept (begins x1 3) ())
(kept (stays j1) (((shape) 0 -1)))
(kept (floor g) ((() -5 99)))
(broken () ())
(broken (stays j1) (()))
(broken (stays j1) ((strange) (come) (tick 5)))
(broken (stays j1) ((5 5 5)))
(broken (ends j1 0) ((tick)))
(wait 0 - () () ())
(wait 0 x1 () () ())
(wait -5 x1 (()) (() (shape)) ((() 0 0)))
(wait 99 x1 ((come x1 a)) ((shape 1 2 3 4 5)) (((shape) -1 7)))
(wait 1 x1 ((come x1) (tick)) (()) ())
(ring x1 () ())
(ring x1 ((come x1 a)) ())
(ring x1 ((come x1 a)) ((tick)))
(ring strange (()) (() (5)))
(ring x1 ((come 5 5) (come x1)) ((tick)))
(pairs alike ())
(pairs never-later ((() () () () ())))
(pairs harmless (((shape) (shape) (99 -5) (7) (7 7))))
(pairs strange ())
(parted alike ())
(parted never-later ((tick) (strange)))
(parted harmless (() (5)))
(parted strange ((tick)))"""
