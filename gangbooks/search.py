"""What a question finds as it goes breadth first through the books of a menu."""

from gangbooks.errors import TooWide


class Search:
    """Things in the order in which they are found, each once by the row that stands for it."""

    def __init__(self, most):
        self.most = most
        self.known = {}
        self.things = []
        self.origins = []

    def meet(self, row, thing, origin=None, event=None):
        """Keep a thing, which an event made of the one at the index origin, if its row is new.

        Return the index of the thing with this row. TooWide is raised for one more than the most.
        """
        if row not in self.known:
            if len(self.things) >= self.most:
                raise TooWide(self.most)
            self.known[row] = len(self.things)
            self.things.append(thing)
            self.origins.append((origin, event))
        return self.known[row]

    def rows_met(self):
        """Return the rows in the order in which they were found."""
        return tuple(list(self.known))

    def book_to(self, at):
        """Return the events that led to the thing at this index."""
        events = []
        origin, event = self.origins[at]
        while origin is not None:
            events.append(event)
            origin, event = self.origins[origin]
        return tuple(events[::-1])
