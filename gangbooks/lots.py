"""Lots: how many gangs the floors grant, and whether the machines hold them."""

from gangbooks.errors import TooWide
from gangbooks.notes import Certificate, No, Yes
from gangbooks.packing import pack
from gangbooks.spans import Span
from gangbooks.takes import Takes
from gangbooks.usage import path_of_gang

MOST_LOTS = 1000


class FloorPlan(Certificate, Yes):
    """Shows that every lot within the floors can be packed: the places of each full lot."""

    def __init__(self, rows):
        self.rows = rows

    def note(self):
        return ("floors", self.rows)


class Crowded(Certificate, No):
    """Shows a lot within the floors that cannot be packed, with the node of its cases."""

    def __init__(self, lot, node):
        self.lot = lot
        self.node = node

    def note(self):
        return ("crowded", self.lot, self.node)


def floor_left(cluster, lot, group):
    """Return what a lot leaves of the floor of a group; templates behind those of the lot count 0."""
    left = cluster.groups[group].floor
    for at, count in enumerate(lot):
        if group in path_of_gang(cluster, (at, 0)):
            left = left - count * cluster.stage_of((at, 0)).total
    return left


def room_beside(cluster, lot, template):
    """Return how many more gangs of the template the floors grant beside a lot within the floors."""
    total = cluster.stage_of((template, 0)).total
    return min([floor_left(cluster, lot, group) // total for group in path_of_gang(cluster, (template, 0))])


def lots_within(cluster):
    """Return all lots within the floors in ascending order; raise TooWide if there are too many."""
    lots = [()]
    for at in range(len(cluster.templates)):
        longer = []
        for lot in list(lots):
            longer.extend([(*lot, count) for count in range(room_beside(cluster, lot, at) + 1)])
            # Each of these is, with counts of 0 behind it, a lot within the floors.
            if len(longer) > MOST_LOTS:
                raise TooWide(MOST_LOTS)
        lots = longer
    return lots


def is_full(cluster, lot):
    """Tell whether no count of a lot within the floors can be raised."""
    return all([room_beside(cluster, lot, at) == 0 for at in range(len(lot))])


def full_lots(cluster):
    """Yield all full lots in ascending order."""
    for lot in lots_within(cluster):
        if is_full(cluster, lot):
            yield lot


def lot_items(lot):
    """Return the items of the gangs of a lot."""
    items = []
    for at, count in enumerate(lot):
        items.extend([((at, 0), Span(0, 1), None)] * count)
    return items


def pack_lot(cluster, lot):
    """Pack the gangs of a lot on the empty cluster."""
    return pack(Takes(cluster, []), lot_items(lot))


def plan_rows(cluster):
    """Return the pairs of each full lot and its places, or None if one of them cannot be packed."""
    rows = []
    for lot in list(full_lots(cluster)):
        try:
            packing = pack_lot(cluster, lot)
        except TooWide:
            return None
        if not packing.holds():
            return None
        rows.append((lot, packing.places))
    return tuple(rows)


def packs(cluster, lot):
    """Tell whether a lot can be packed without an error."""
    try:
        return pack_lot(cluster, lot).holds()
    except TooWide:
        return False


def beginning(lot, many):
    """Return the lot of the first gangs of a lot, so many of them."""
    counts = []
    for count in lot:
        counts.append(min(count, many - sum(counts)))
    return tuple(counts)


def packed_beginning(cluster, lot):
    """Return the lot of the most first gangs of a lot that can be packed."""
    low, high = 0, sum(lot)
    while low < high:
        middle = (low + high + 1) // 2
        if packs(cluster, beginning(lot, middle)):
            low = middle
        else:
            high = middle - 1
    return beginning(lot, low)


def is_part(lot, other):
    """Tell whether no count of a lot is above that of another one."""
    return all([one <= two for one, two in zip(lot, other)])


def first_crowded(cluster):
    """Return the first lot that cannot be packed as a Crowded, or None."""
    known = [packed_beginning(cluster, lot) for lot in full_lots(cluster)]
    for lot in sorted(lots_within(cluster), key=lambda row: (sum(row), row)):
        if not any([is_part(lot, part) for part in known]):
            packing = pack_lot(cluster, lot)
            if not packing.holds():
                return Crowded(lot, packing.node)
    return None


def floors_hold(cluster):
    """Return a FloorPlan if every lot within the floors can be packed, otherwise the first Crowded one."""
    # A part of a lot that is packed is packed, too, with no more cases. So the lots need to be
    # tried in their order only if a full lot is not packed, and then not all of them.
    rows = plan_rows(cluster)
    return first_crowded(cluster) if rows is None else FloorPlan(rows)
