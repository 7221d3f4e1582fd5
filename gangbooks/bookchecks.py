"""Checkers of the certificates about all books of a menu."""

from gangbooks.errors import GangError
from gangbooks.notes import write_note
from gangbooks.pairs import PairBook, PairTable, common_events, is_parted, pair_row, two_policies, with_and_without
from gangbooks.policy import Policy
from gangbooks.promises import Broken, Kept, promise_row, ticks_after
from gangbooks.shapes import shape
from gangbooks.waits import WaitBound, WaitRing
from gangbooks.ways import TICK, comings, has_begun, waiting_events, way_of


def met_from(firsts, behind, most):
    """Return the things that are met from these pairs (row, thing) on, by their rows.

    The pairs that come next are behind(thing). The result is None where they are None,
    and for more rows than the most.
    """
    met = {}
    queue = list(firsts)
    tried = 0
    while tried < len(queue):
        row, thing = queue[tried]
        tried += 1
        if row not in met:
            pairs = behind(thing)
            if pairs is None or len(met) >= most:
                return None
            met[row] = thing
            queue.extend(pairs)
    return met


def are_told(met, rows):
    """Tell whether a certificate tells just the rows that were met, in any order."""
    # Rows that are told may be of any depth, so that their texts are compared, and none is a key.
    return met is not None and sorted([write_note(row) for row in met]) == sorted([write_note(row) for row in rows])


def check_promise(state, menu, promise, step, verdict):
    """Tell whether a Kept or a Broken is right."""
    try:
        promise.index_in(state)
        if isinstance(verdict, Kept) and verdict.words == promise.words:
            return is_kept(state, menu, promise, step, verdict.rows)
        if isinstance(verdict, Broken) and verdict.words == promise.words:
            return is_broken_by(state, menu, promise, step, verdict.book)
    except GangError:
        return False
    return False


def is_kept(state, menu, promise, step, rows):
    """Tell whether no book breaks a promise, and the rows are those of all states in which one still could."""
    if promise.is_broken(state, [], promise.ticks):
        return False
    firsts = []
    if not promise.is_over(state):
        firsts.append((promise_row(state, promise, promise.ticks), (state, promise.ticks)))
    return are_told(met_from(firsts, lambda thing: open_behind(thing, menu, promise, step), len(rows)), rows)


def open_behind(thing, menu, promise, step):
    """Return the pairs for the states behind one in which a promise can still be broken, or None if it is broken."""
    now, ticks = thing
    pairs = []
    for event in menu(now):
        after, deeds = step(now, event)
        left = ticks_after(event, ticks)
        if promise.is_broken(after, deeds, left):
            return None
        if not promise.is_over(after):
            pairs.append((promise_row(after, promise, left), (after, left)))
    return pairs


def is_broken_by(state, menu, promise, step, book):
    """Tell whether a book of the menu breaks a promise at its end, and not before."""
    now, deeds, ticks = state, [], promise.ticks
    for event in book:
        if promise.is_broken(now, deeds, ticks) or promise.is_over(now) or event not in menu(now):
            return False
        now, deeds = step(now, event)
        ticks = ticks_after(event, ticks)
    return promise.is_broken(now, deeds, ticks)


def check_wait(state, menu, template, step, certificate):
    """Tell whether a WaitBound or a WaitRing is right."""
    if template not in menu.templates:
        return False
    try:
        if isinstance(certificate, WaitBound):
            return is_bound(state, menu, template, step, certificate)
        if isinstance(certificate, WaitRing):
            return is_ring(state, menu, template, step, certificate)
    except GangError:
        return False
    return False


def is_bound(state, menu, template, step, bound):
    """Tell whether the shapes and the rows of a WaitBound are right, and its book shows its hours."""
    shapes = met_from([(shape(state), state)], lambda now: shapes_behind(now, menu, step), len(bound.shapes))
    if not are_told(shapes, bound.shapes):
        return False
    begins = [(step(now, event)[0], event[1])
              for now in shapes.values() for event in comings(menu, now, template)]
    if not numbers_fall([(now, name) for now, name in begins if not has_begun(now, name)], menu, step, bound):
        return False
    if not begins:
        return (bound.hours, bound.name, bound.book) == (0, None, ())
    return waits_so_long(state, menu, template, step, bound)


def shapes_behind(now, menu, step):
    """Return the pairs of shape and state for the states behind one."""
    states = [step(now, event)[0] for event in menu(now)]
    return [(shape(after), after) for after in states]


def numbers_fall(waiting, menu, step, bound):
    """Tell whether a WaitBound has a row for each way to wait, and their numbers are right.

    The ways begin with these pairs of a state and the name of the job that has come.
    """
    numbers = {write_note((form, index)): number for form, index, number in bound.rows}
    if not all([number >= 1 for _, _, number in bound.rows]):
        return False
    if not all([number_of(numbers, now, name) <= bound.hours for now, name in waiting]):
        return False
    firsts = [(way_of(now, name), (now, name)) for now, name in waiting]
    met = met_from(firsts, lambda thing: ways_behind(thing, menu, step, numbers), len(bound.rows))
    return are_told(met, [(form, index) for form, index, _ in bound.rows])


def number_of(numbers, now, name):
    """Return the number of the way in which a job waits, 0 if there is none."""
    return numbers.get(write_note(way_of(now, name)), 0)


def ways_behind(thing, menu, step, numbers):
    """Return the pairs for the ways behind one in which the job still waits, or None if a number does not fall."""
    now, name = thing
    number = number_of(numbers, now, name)
    pairs = []
    for event in waiting_events(menu, now, name):
        after, _ = step(now, event)
        if not has_begun(after, name):
            if number_of(numbers, after, name) > (number - 1 if event == TICK else number):
                return None
            pairs.append((way_of(after, name), (after, name)))
    return pairs


def states_of_book(state, menu, step, book):
    """Return the given state and those that the events of a book lead to, or None if it is no book of the menu."""
    states = [state]
    for event in book:
        if event not in menu(states[-1]):
            return None
        after, _ = step(states[-1], event)
        states.append(after)
    return states


def coming_of(book, template, name):
    """Return the index of the last coming of a job with this name, or None if it is not one of the template."""
    found = [at for at, event in enumerate(book) if event[0] == "come" and event[1] == name]
    if not found or book[found[-1]][2] != template:
        return None
    return found[-1]


def waits_in(states, name):
    """Tell whether a job with this name has not begun in any of the states, and is in each of them."""
    return all([name in now and not has_begun(now, name) for now in states])


def waits_so_long(state, menu, template, step, bound):
    """Tell whether the last event of a WaitBound's book lets its job begin when it has waited the hours."""
    states = states_of_book(state, menu, step, bound.book)
    if states is None:
        return False
    at = coming_of(bound.book, template, bound.name)
    if at is None or not waits_in(states[at + 1:-1], bound.name):
        return False
    ticks = [event for event in bound.book[at:] if event == TICK]
    return len(ticks) == bound.hours and bound.name in states[-1] and has_begun(states[-1], bound.name)


def is_ring(state, menu, template, step, ring):
    """Tell whether the job of a WaitRing waits behind its book, and in all states of its ring."""
    states = states_of_book(state, menu, step, ring.book)
    if states is None:
        return False
    at = coming_of(ring.book, template, ring.name)
    if at is None or not waits_in(states[at + 1:], ring.name):
        return False
    further = states_of_book(states[-1], menu, step, ring.ring)
    if further is None or TICK not in ring.ring or not waits_in(further, ring.name):
        return False
    return way_of(further[-1], ring.name) == way_of(states[-1], ring.name)


def check_pairs(state, other, menu, step, certificate):
    """Tell whether a PairTable or a PairBook is right."""
    try:
        if isinstance(certificate, PairTable):
            return is_table(beginning(state, other, step, certificate.relation), menu, step, certificate)
        if isinstance(certificate, PairBook):
            return is_parting(beginning(state, other, step, certificate.relation), menu, step, certificate)
    except GangError:
        return False
    return False


def beginning(state, other, step, relation):
    """Return the beginnings of the two runs of a relation, or None if there is none such or other does not fit it."""
    if relation == "harmless" and isinstance(other, tuple):
        return with_and_without(state, other, step)
    if relation in ("alike", "never-later") and isinstance(other, Policy):
        return two_policies(state, other)
    return None


def is_table(runs, menu, step, table):
    """Tell whether a relation holds in all books, and the rows are those of all pairs of states."""
    if runs is None or is_parted(table.relation, runs[0], runs[1]):
        return False
    firsts = [pair_of_states(runs[0], runs[1])]
    met = met_from(firsts, lambda thing: pairs_behind(thing, menu, step, table.relation), len(table.rows))
    return are_told(met, table.rows)


def pair_of_states(left, right):
    """Return the row of the two states that runs have reached, and the states."""
    return pair_row(left[0], right[0]), (left[0], right[0])


def pairs_behind(thing, menu, step, relation):
    """Return the pairs for the states behind two, or None if the relation is seen not to hold."""
    one, other = thing
    pairs = []
    for event in common_events(menu, one, other):
        left = step(one, event)
        right = step(other, event)
        if is_parted(relation, left, right):
            return None
        pairs.append(pair_of_states(left, right))
    return pairs


def is_parting(runs, menu, step, parting):
    """Tell whether a book of the menu for both runs shows at its end, and not before, that a relation does not hold."""
    if runs is None:
        return False
    left, right = runs
    for event in parting.book:
        if is_parted(parting.relation, left, right) or event not in common_events(menu, left[0], right[0]):
            return False
        left = step(left[0], event)
        right = step(right[0], event)
    return is_parted(parting.relation, left, right)
