"""Packings: places of several gangs together."""

from gangbooks.errors import TooWide
from gangbooks.fitting import bounds, placings, stands, takes_of
from gangbooks.notes import Certificate, No, Yes

WIDEST = 4096


class Packing(Certificate, Yes):
    """Shows that items can be packed: a row of counts for each."""

    def __init__(self, places):
        self.places = places

    def note(self):
        return ("packing", self.places)


class CaseTree(Certificate, No):
    """Shows that items cannot be packed: all cases, down to an item without a possible row."""

    def __init__(self, node):
        self.node = node

    def note(self):
        return ("tree", self.node)


def possible_rows(takes, item, barred, shut):
    """Return the rows of counts that are possible for an item, in the order of the tries."""
    gang, span, present = item
    closed = (*barred, *shut)
    rows = list(placings(takes, gang, span, closed))
    if present is None or not stands(takes, gang, span, present, barred):
        return rows
    others = [row for row in rows if row != present]
    return [present, *others]


def refuse_wide(takes, items, barred, shut):
    """Raise TooWide if there are too many combinations of rows that are possible for each item alone."""
    width = 1
    for item in items:
        width = width * max(1, len(possible_rows(takes, item, barred, shut)))
        if width > WIDEST:
            raise TooWide(WIDEST)


def short_node(takes, item, barred, shut):
    """Return the node of an item that has no possible row."""
    gang, span, _ = item
    return ("short", tuple(bounds(takes, gang, span, (*barred, *shut))))


def pack(takes, items, *, barred=(), shut=()):
    """Return the first Packing of the items, or the CaseTree that shows that there is none.

    The trail keeps, for each item that has a place, the takes before it, its
    possible rows, and the nodes of those rows that have failed: so its present
    place is the row behind these.
    """
    refuse_wide(takes, items, barred, shut)
    trail = []
    here = takes
    while len(trail) < len(items):
        rows = possible_rows(here, items[len(trail)], barred, shut)
        if rows:
            trail.append((here, rows, []))
        else:
            node = short_node(here, items[len(trail)], barred, shut)
            # An item whose last row has failed has failed itself.
            while trail and len(trail[-1][1]) == len(trail[-1][2]) + 1:
                _, tried, nodes = trail.pop()
                cases = list(zip(tried, [*nodes, node]))
                node = ("cases", *cases)
            if not trail:
                return CaseTree(node)
            trail[-1][2].append(node)
        before, tried, nodes = trail[-1]
        gang, span, _ = items[len(trail) - 1]
        here = before + takes_of(takes.cluster, gang, span, tried[len(nodes)])
    return Packing(tuple([tried[len(nodes)] for _, tried, nodes in trail]))
