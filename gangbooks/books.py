"""Books: lists of events."""

from gangbooks.errors import BadEvent, BadLine, NoEvent
from gangbooks.events import event_line, read_event


class Book:
    """A list of events with a text, a line for each event."""

    def __init__(self, events):
        self.events = tuple(events)

    @classmethod
    def read(cls, text):
        """Return the book with this text; BadLine tells its first wrong line."""
        lines = text.split("\n") if text != "" else []
        events = []
        for number, line in enumerate(lines, start=1):
            try:
                events.append(read_event(line))
            except BadEvent as e:
                raise BadLine(number) from e
        return cls(events)

    def text(self):
        """Return the lines of the events, separated by newlines."""
        return "\n".join([event_line(event) for event in self.events])

    def first(self, n):
        """Return the book of the first n events."""
        if not 0 <= n <= len(self.events):
            raise NoEvent(n)
        return Book(self.events[:n])

    def without(self, at):
        """Return the book without the event at this index."""
        if not 0 <= at < len(self.events):
            raise NoEvent(at)
        return Book(self.events[:at] + self.events[at + 1:])

    def put(self, at, event):
        """Return the book with the event in front of the one at this index, or at the end."""
        if not 0 <= at <= len(self.events):
            raise NoEvent(at)
        return Book(self.events[:at] + (event,) + self.events[at:])

    def __add__(self, other):
        return Book(self.events + other.events)

    def __eq__(self, other):
        return isinstance(other, Book) and self.events == other.events

    def __getitem__(self, at):
        return self.events[at]

    def __len__(self):
        return len(self.events)

    def __iter__(self):
        return iter(self.events)
