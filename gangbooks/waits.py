"""How long a job can wait at most, or whether it can wait for ever."""

from gangbooks.errors import Unknown
from gangbooks.menus import discover
from gangbooks.notes import Certificate, No, Yes
from gangbooks.search import Search
from gangbooks.ways import TICK, find_ways, has_begun, last_ticks, waiting_events, way_of


class WaitBound(Certificate, Yes):
    """Shows that each job begins after so many hours at most, and a book in which one waits so long."""

    def __init__(self, hours, name, book, shapes, rows):
        self.hours = hours
        self.name = name
        self.book = book
        self.shapes = shapes
        self.rows = rows

    def note(self):
        return ("wait", self.hours, self.name, self.book, self.shapes, self.rows)


class WaitRing(Certificate, No):
    """Shows that a job can wait for ever: events that can follow again and again while it waits."""

    def __init__(self, name, book, ring):
        self.name = name
        self.book = book
        self.ring = ring

    def note(self):
        return ("ring", self.name, self.book, self.ring)


def find_shapes(state, menu, step, most):
    """Return the search for all shapes that books of the menu lead to."""
    shapes = Search(most)
    for form, reached, origin, event in discover(state, menu, step, most):
        shapes.meet(form, reached, origin, event)
    return shapes


def walk_on(state, name, menu, step, ways, places):
    """Return the events by which a job waits on until it begins, or until it waits as it did before.

    Then it did so behind the first events, as many as the second number returned; otherwise that is None.
    """
    events = []
    met = {}
    now = state
    while not has_begun(now, name):
        at = ways.search.known[way_of(now, name)]
        if at in met:
            return events, met[at]
        met[at] = len(events)
        event = TICK if places[at] is None else waiting_events(menu, now, name)[places[at]]
        events.append(event)
        now, _ = step(now, event)
    return events, None


def longest_wait(state, menu, template, step, *, most=1000):
    """Return a WaitBound of the hours that a job of the template waits at most, or a WaitRing."""
    if template not in menu.templates:
        raise Unknown(template)
    shapes = find_shapes(state, menu, step, most)
    ways, begins = find_ways(shapes.things, menu, template, step, most)
    numbers, places = last_ticks(ways)
    hours = [0 if way is None else numbers[way] for _, _, way in begins]
    longest = None if None in hours else max(hours, default=0)
    book, name = (), None
    if begins:
        at, event, _ = begins[hours.index(longest)]
        book, name = shapes.book_to(at) + (event,), event[1]
        first, _ = step(shapes.things[at], event)
        events, known = walk_on(first, name, menu, step, ways, places)
        if longest is None:
            return WaitRing(name, book + tuple(events[:known]), tuple(events[known:]))
        book = book + tuple(events)
    rows = tuple([(*way, numbers[at]) for at, way in enumerate(ways.search.rows_met())])
    return WaitBound(longest, name, book, shapes.rows_met(), rows)
