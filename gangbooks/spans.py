"""Spans of hours."""

from gangbooks.errors import BadSpan


class Span:
    """The hours from a start to the hour before an end."""

    def __init__(self, start, end):
        if not 0 <= start <= end:
            raise BadSpan((start, end))
        self.start = start
        self.end = end

    def __rshift__(self, other):
        return Span(self.start + other, self.end + other)

    def __lshift__(self, other):
        return Span(self.start - other, self.end - other)

    def __and__(self, other):
        start = max(self.start, other.start)
        return Span(start, max(start, min(self.end, other.end)))

    def __or__(self, other):
        return Span(min(self.start, other.start), max(self.end, other.end))

    def __xor__(self, other):
        return bool(self & other)

    def __contains__(self, x):
        return self.start <= x < self.end

    def __eq__(self, other):
        return isinstance(other, Span) and self.start == other.start and self.end == other.end

    def __bool__(self):
        return bool(self.start < self.end)

    def __len__(self):
        return len(range(self.start, self.end))
