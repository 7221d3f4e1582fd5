"""Two runs with the same events: whether policies act alike, and what is never later."""

from gangbooks.hours import change
from gangbooks.menus import free_name
from gangbooks.notes import Certificate, No, Yes
from gangbooks.search import Search
from gangbooks.settle import settle
from gangbooks.shapes import shape

# The words of deeds that count where two runs are to act alike.
WORDS = ("out", "lost", "start", "stage", "end", "drop", "broken")


class PairTable(Certificate, Yes):
    """Shows that a relation holds in all books: the pairs of states that they lead to."""

    def __init__(self, relation, rows):
        self.relation = relation
        self.rows = rows

    def note(self):
        return ("pairs", self.relation, self.rows)


class PairBook(Certificate, No):
    """Shows that a relation does not hold: a book at whose end this is seen."""

    def __init__(self, relation, book):
        self.relation = relation
        self.book = book

    def note(self):
        return ("parted", self.relation, self.book)


def begun_marks(state):
    """Return 1 for each job that has begun and 0 for each that has not."""
    return tuple([0 if job.began is None else 1 for job in state])


def pair_row(left, right):
    """Return the row that stands for two states."""
    names = [job.name for job in right]
    match = tuple([names.index(job.name) if job.name in names else -1 for job in left])
    return shape(left), shape(right), match, begun_marks(left), begun_marks(right)


def renamed(event, name):
    """Return the event with this name of the job, if it is a coming."""
    return ("come", name, event[2]) if event[0] == "come" else event


def common_events(menu, left, right):
    """Return the events that the menu lets in both states."""
    name = free_name(left, right)
    mine = [renamed(event, name) for event in menu(left)]
    others = [renamed(event, name) for event in menu(right)]
    return [event for event in mine if event in others]


def words_by_job(deeds):
    """Return for each job that has deeds the tuple of their words that count."""
    words = {}
    for deed in deeds:
        if deed[0] in WORDS:
            words[deed[1]] = words.get(deed[1], ()) + (deed[0],)
    return words


def is_later(left, right):
    """Tell whether a job has begun in the left state and its match in the right state has not."""
    return any([job.began is not None and job.name in right and right[job.name].began is None for job in left])


def is_parted(relation, left, right):
    """Tell whether a relation is seen not to hold, by pairs of a state and the deeds that led to it."""
    if relation == "alike":
        return words_by_job(left[1]) != words_by_job(right[1])
    return is_later(left[0], right[0])


def two_policies(state, policy):
    """Return the beginnings of the runs with the state's policy and with another one."""
    settlement = settle(state)
    return (settlement.after, list(settlement.deeds)), change(state, policy)


def with_and_without(state, event, step):
    """Return the beginnings of the runs without and with an event."""
    return (state, []), step(state, event)


def compare(relation, beginning, menu, step, most):
    """Return the PairTable of a relation between two runs, or the PairBook that shows that it does not hold."""
    left, right = beginning
    if is_parted(relation, left, right):
        return PairBook(relation, ())
    search = Search(most)
    search.meet(pair_row(left[0], right[0]), (left[0], right[0]))
    at = 0
    while at < len(search.things):
        one, other = search.things[at]
        for event in list(common_events(menu, one, other)):
            left = step(one, event)
            right = step(other, event)
            if is_parted(relation, left, right):
                return PairBook(relation, search.book_to(at) + (event,))
            search.meet(pair_row(left[0], right[0]), (left[0], right[0]), at, event)
        at += 1
    return PairTable(relation, search.rows_met())


def alike(state, policy, menu, step, *, most=1000):
    """Tell whether the state's policy and another one do the same to each job in all books."""
    return compare("alike", two_policies(state, policy), menu, step, most)


def never_later(state, policy, menu, step, *, most=1000):
    """Tell whether each job begins with another policy no later than with the state's, in all books."""
    return compare("never-later", two_policies(state, policy), menu, step, most)


def harmless(state, event, menu, step, *, most=1000):
    """Tell whether each job begins no later after an event than without it, in all books."""
    return compare("harmless", with_and_without(state, event, step), menu, step, most)
