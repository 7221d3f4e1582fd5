"""Keepers: books that are kept together with the states that their events lead to."""

from gangbooks.books import Book
from gangbooks.errors import GangError, NoEvent, NothingToUndo, Refused


def performed(step, state, events, first):
    """Perform events one after the other; return pairs of each event and its deeds, and the states behind them.

    Refused tells the first event that is refused; the index of the events begins with first.
    """
    rows = []
    states = []
    now = state
    for at, event in enumerate(events, start=first):
        try:
            now, deeds = step(now, event)
        except GangError as e:
            raise Refused(at) from e
        rows.append((event, tuple(deeds)))
        states.append(now)
    return tuple(rows), tuple(states)


class Trial:
    """A block of changes of a keeper that are taken back if an error leaves it."""

    def __init__(self, keeper):
        self.keeper = keeper
        self.kept_rows = ()
        self.kept_states = ()

    def __enter__(self):
        # The keeper replaces its tuples and never changes one, so that these stay as they are now.
        self.kept_rows = self.keeper.rows
        self.kept_states = self.keeper.states
        return self.keeper

    def __exit__(self, kind, value, trace):
        if kind is not None:
            self.keeper.rows = self.kept_rows
            self.keeper.states = self.kept_states


class Keeper:
    """A book of events from a state on, with the deeds of each event and the state behind it."""

    def __init__(self, start, step):
        self.step = step
        self.rows = ()
        self.states = (start,)

    @classmethod
    def replay(cls, start, step, book):
        """Return a keeper that has entered the events of a book."""
        keeper = cls(start, step)
        keeper.extend_by(book)
        return keeper

    @property
    def state(self):
        """The state after all events."""
        return self.states[-1]

    @property
    def entered(self):
        """The book of all events."""
        return Book([event for event, _ in self.rows])

    def cut(self, n):
        """Keep the first n events only."""
        self.rows = self.rows[:n]
        self.states = self.states[:n + 1]

    def refuse_strange(self, at, last):
        """Raise NoEvent unless the number is from 0 to the last one."""
        if not 0 <= at <= last:
            raise NoEvent(at)

    def go_on(self, at, events):
        """Let the book go on with these events behind its first ones, as many as at."""
        rows, states = performed(self.step, self.states[at], events, at)
        self.rows = self.rows[:at] + rows
        self.states = self.states[:at + 1] + states

    def events_from(self, at):
        """Return the list of the events from this index on."""
        return [event for event, _ in self.rows[at:]]

    def enter(self, event):
        """Perform an event and return its deeds."""
        after, deeds = self.step(self.state, event)
        self.rows = self.rows + ((event, tuple(deeds)),)
        self.states = self.states + (after,)
        return list(deeds)

    def extend_by(self, events):
        """Enter all events of a list or a book, or none."""
        rows, states = performed(self.step, self.state, events, 0)
        self.rows = self.rows + rows
        self.states = self.states + states

    def undo(self):
        """Take the last event back and return it."""
        if not self.rows:
            raise NothingToUndo(1)
        event, _ = self.rows[-1]
        self.cut(len(self.rows) - 1)
        return event

    def undo_all(self, n):
        """Take the last n events back."""
        if n > len(self.rows):
            raise NothingToUndo(n)
        self.cut(len(self.rows) - n)

    def strike(self, at):
        """Take the event at this index out of the book and return it."""
        self.refuse_strange(at, len(self.rows) - 1)
        event, *behind = self.events_from(at)
        self.go_on(at, behind)
        return event

    def insert_at(self, at, event):
        """Put an event in front of the one at this index, or at the end."""
        self.refuse_strange(at, len(self.rows))
        self.go_on(at, [event] + self.events_from(at))

    def as_of(self, n):
        """Return the state after the first n events."""
        self.refuse_strange(n, len(self.rows))
        return self.states[n]

    def would(self, *events):
        """Return the deeds of each of the events, as if they were entered one after the other."""
        rows, _ = performed(self.step, self.state, events, 0)
        return [list(deeds) for _, deeds in rows]

    def walk(self):
        """Yield (index of the event, hour after it, deed) for each deed."""
        for at, (_, deeds) in enumerate(self.rows):
            for deed in deeds:
                yield at, self.states[at + 1].hour, deed

    def trial(self):
        """Return a block for changes that an error takes back."""
        return Trial(self)

    def perform(self, orders):
        """Perform orders one after the other, all or none."""
        with self.trial() as same:
            for order in orders:
                same.obey(order)

    def obey(self, order):
        """Perform one order."""
        if order[0] == "undo":
            self.undo()
        elif order[0] == "strike":
            self.strike(order[1])
        elif order[0] == "insert":
            self.insert_at(order[1], order[2])
        elif order[0] == "attempt":
            try:
                self.perform(order[1])
            except GangError:
                pass
        else:
            self.enter(order)

    def __iadd__(self, other):
        self.extend_by(other)
        return self

    def __isub__(self, other):
        self.undo_all(other)
        return self

    def __len__(self):
        return len(self.rows)

    def __iter__(self):
        return iter(self.rows)
