"""Fair shares: an amount of one resource, divided among the groups."""

from math import lcm

from gangbooks.errors import BadAmounts, Unknown
from gangbooks.notes import Certificate, Yes
from gangbooks.shares import Share, as_share, greater, lesser


class Wants:
    """The amounts of one resource that the leaves want."""

    def __init__(self, cluster, resource):
        self.cluster = cluster
        self.resource = resource
        self.wanted = {group.name: 0 for group in cluster.groups if group.leaf}

    def put(self, name, amount):
        """Set the amount that the leaf with this name wants."""
        if name not in self.wanted:
            raise Unknown(name)
        if amount < 0:
            raise BadAmounts((amount,))
        self.wanted[name] = amount

    def __setitem__(self, at, worth):
        self.put(at, worth)

    def __getitem__(self, at):
        if at not in self.wanted:
            raise Unknown(at)
        return self.wanted[at]

    def __iter__(self):
        return iter(self.wanted.items())


class Levels(Certificate, Yes):
    """Shows how an amount is divided: the share of each group, and the level of each division."""

    def __init__(self, resource, amount, wanted, shares, rows):
        self.resource = resource
        self.amount = amount
        self.wanted = wanted
        self.shares = shares
        self.rows = rows

    def note(self):
        shares = tuple([pair_of(share) for share in self.shares])
        rows = tuple([(group, mode, None if level is None else pair_of(level)) for group, mode, level in self.rows])
        return ("levels", self.resource, pair_of(self.amount), self.wanted, shares, rows)

    def __getitem__(self, at):
        if not 0 <= at < len(self.shares):
            raise Unknown(at)
        return self.shares[at]

    def __iter__(self):
        return iter(self.shares)


def pair_of(share):
    """Return a share as the pair that stands for it in a note."""
    return share.top, share.bottom


def sum_of(shares):
    """Return the sum of shares."""
    total = Share(0)
    for share in shares:
        total = total + share
    return total


def children_of(cluster, parent):
    """Return the indexes of the groups directly below a group, or the top groups for -1."""
    above = None if parent == -1 else parent
    return [at for at, group in enumerate(cluster.groups) if group.parent == above]


def needs_of(cluster, resource, wanted):
    """Return for each group its want: what it or those below it want, cut by the limits."""
    wants = list(wanted)
    # A parent stands before the groups below it.
    for at in reversed(range(len(wants))):
        group = cluster.groups[at]
        if group.limit is not None:
            wants[at] = min(wants[at], group.limit[resource])
        if group.parent is not None:
            wants[group.parent] += wants[at]
    return wants


def parts_at(level, bands):
    """Return what each band (low, high, weight) gets at a level: level times weight, but from low to high."""
    return [lesser(Share(high), greater(Share(low), level * weight)) for low, high, weight in bands]


def level_of(amount, bands):
    """Return the least level at which the bands get the amount together; it is one that they can get.

    What they get grows evenly between the levels at which a band leaves its
    low or reaches its high. With the common scale these levels are integers.
    """
    scale = 1
    for _, _, weight in bands:
        scale = lcm(scale, weight)
    bends = [bend * (scale // weight) for low, high, weight in bands for bend in (low, high)]
    before = here = Share(0)
    got = gets = sum_of(parts_at(here, bands))
    for bend in sorted(set(bends)):
        here = Share(bend, scale)
        gets = sum_of(parts_at(here, bands))
        if (gets - amount).sign >= 0:
            break
        before, got = here, gets
    if gets == got:
        return before
    return before + (here - before) * (amount - got).over(gets - got)


def wanted_by(wants):
    """Return the wanted amount of each group of the cluster, 0 for those that are no leaves."""
    named = dict(wants)
    return tuple([named.get(group.name, 0) for group in wants.cluster.groups])


def divided_groups(cluster):
    """Return the groups below which an amount is divided, with -1 for the top groups."""
    return [-1] + [at for at, group in enumerate(cluster.groups) if not group.leaf]


def rows_below(cluster, resource, needs, parent):
    """Return the rows (want, claim, weight) of the groups directly below a group, or the top groups for -1."""
    groups = [(needs[at], cluster.groups[at]) for at in children_of(cluster, parent)]
    return [(need, min(group.floor[resource], need), group.weight) for need, group in groups]


def mode_of(amount, rows):
    """Return the mode of a division among rows (want, claim, weight), and the bands of what each row gets."""
    if (amount - sum([want for want, _, _ in rows])).sign >= 0:
        return "all", [(want, want, weight) for want, _, weight in rows]
    if (amount - sum([claim for _, claim, _ in rows])).sign >= 0:
        return "above", [(claim, want, weight) for want, claim, weight in rows]
    return "below", [(0, claim, weight) for _, claim, weight in rows]


def divided(amount, rows):
    """Return the mode, the level and the shares of a division among rows (want, claim, weight)."""
    mode, bands = mode_of(amount, rows)
    if mode == "all":
        return mode, None, parts_at(Share(0), bands)
    level = level_of(amount, bands)
    return mode, level, parts_at(level, bands)


def fair(wants, amount):
    """Divide an amount, an integer or a Share, among the groups; return the Levels."""
    cluster, resource = wants.cluster, wants.resource
    wanted = wanted_by(wants)
    needs = needs_of(cluster, resource, wanted)
    shares = [Share(0)] * len(needs)
    rows = []
    for parent in divided_groups(cluster):
        whole = as_share(amount) if parent == -1 else shares[parent]
        mode, level, parts = divided(whole, rows_below(cluster, resource, needs, parent))
        rows.append((parent, mode, level))
        for at, part in zip(children_of(cluster, parent), parts):
            shares[at] = part
    return Levels(resource, as_share(amount), wanted, tuple(shares), tuple(rows))
