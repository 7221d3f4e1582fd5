"""Promises about jobs and groups, and whether they are kept in all books."""

from gangbooks.errors import Unknown
from gangbooks.events import event_line
from gangbooks.notes import Certificate, No, Yes
from gangbooks.picks import gang_of
from gangbooks.search import Search
from gangbooks.shapes import shape
from gangbooks.usage import owed, path_of_gang, used_by

NO_INDEX = -1
NO_TICKS = -1


def has_deed(deeds, words, name):
    """Tell whether a job with this name has a deed with one of the words."""
    return any([deed[0] in words and deed[1] == name for deed in deeds])


class Promise:
    """What is said of a job, or of a group, in all books.

    Each class tells where its promise stands in a state: the index of its job,
    whether it can be broken any more, and whether it is broken, by the deeds
    that led to the state and the ticks that are left.
    """

    def __init__(self, words, ticks):
        self.words = words
        self.ticks = ticks

    def index_in(self, state):
        """Return the index of the promise's job."""
        names = [job.name for job in state]
        if self.words[1] not in names:
            raise Unknown(self.words[1])
        return names.index(self.words[1])

    def is_over(self, state):
        """Tell whether the promise cannot be broken any more."""
        return self.words[1] not in state


class Begins(Promise):
    """The job begins within so many hours."""

    def __init__(self, name, hours):
        super().__init__(("begins", name, hours), hours)

    def is_over(self, state):
        return self.words[1] not in state or state[self.words[1]].began is not None

    def is_broken(self, state, deeds, ticks):
        """Tell whether the hours have passed and the job has not begun."""
        return ticks == 0 and not self.is_over(state)


class Ends(Promise):
    """The job leaves within so many hours."""

    def __init__(self, name, hours):
        super().__init__(("ends", name, hours), hours)

    def is_broken(self, state, deeds, ticks):
        """Tell whether the hours have passed and the job is still there."""
        return ticks == 0 and not self.is_over(state)


class Stays(Promise):
    """The job is not thrown out."""

    def __init__(self, name):
        super().__init__(("stays", name), NO_TICKS)

    def is_broken(self, state, deeds, ticks):
        """Tell whether the job was thrown out."""
        return has_deed(deeds, ("out", "lost"), self.words[1])


class Reserved(Promise):
    """The job keeps its reservation as long as it is not thrown out."""

    def __init__(self, name):
        super().__init__(("reserved", name), NO_TICKS)

    def is_broken(self, state, deeds, ticks):
        """Tell whether the reservation was given up."""
        return has_deed(deeds, ("broken",), self.words[1])


class Floor(Promise):
    """No loose job of the top group waits while its floor has room for it."""

    def __init__(self, group):
        super().__init__(("floor", group), NO_TICKS)

    def index_in(self, state):
        groups = state.cluster.groups
        if self.words[1] not in [group.name for group in groups if group.parent is None]:
            raise Unknown(self.words[1])
        return NO_INDEX

    def is_over(self, state):
        return False

    def is_broken(self, state, deeds, ticks):
        """Tell whether a loose job of the group waits that is owed by what the loose jobs use that run."""
        loose = [job for job in state if not job.firm]
        used = used_by(state.cluster, [gang_of(job) for job in loose if job.place is not None])
        waiting = [gang_of(job) for job in loose if job.place is None]
        top = state.cluster.group_index(self.words[1])
        return any([path_of_gang(state.cluster, gang)[0] == top and owed(state.cluster, used, gang)
                    for gang in waiting])


class Verdict(Certificate):
    """Shows whether a promise is kept."""

    def __init__(self, answer, words):
        self.answer = answer
        self.words = words

    def lines(self):
        """Return the line that tells the answer."""
        texts = [self.answer]
        texts.extend([str(word) for word in self.words])
        return [" ".join(texts)]


class Kept(Verdict, Yes):
    """Shows that a promise is kept: all states that books lead to as long as it can be broken."""

    def __init__(self, words, rows):
        super().__init__("kept", words)
        self.rows = rows

    def note(self):
        return (self.answer, self.words, self.rows)

    def lines(self):
        """Return the line that tells the answer."""
        return super().lines()


class Broken(Verdict, No):
    """Shows that a promise is broken: a book that breaks it."""

    def __init__(self, words, book):
        super().__init__("broken", words)
        self.book = book

    def note(self):
        return (self.answer, self.words, self.book)

    def lines(self):
        """Return the line that tells the answer, and that of each event of the book."""
        first = super().lines()
        return first + ["  " + event_line(event) for event in self.book]


def ticks_after(event, ticks):
    """Return how many ticks are left behind an event."""
    return ticks - 1 if event == ("tick",) and ticks > 0 else ticks


def promise_row(state, promise, ticks):
    """Return the triple that stands for a state in which the promise can still be broken."""
    return shape(state), promise.index_in(state), ticks


def judge(state, menu, promise, step, *, most=1000):
    """Return Kept if the promise is kept in all books of the menu, otherwise Broken with a shortest book."""
    promise.index_in(state)
    if promise.is_broken(state, [], promise.ticks):
        return Broken(promise.words, ())
    search = Search(most)
    if not promise.is_over(state):
        search.meet(promise_row(state, promise, promise.ticks), (state, promise.ticks))
    at = 0
    while at < len(search.things):
        now, ticks = search.things[at]
        for event in list(menu(now)):
            after, deeds = step(now, event)
            left = ticks_after(event, ticks)
            if promise.is_broken(after, deeds, left):
                return Broken(promise.words, search.book_to(at) + (event,))
            if not promise.is_over(after):
                search.meet(promise_row(after, promise, left), (after, left), at, event)
        at += 1
    return Kept(promise.words, search.rows_met())
