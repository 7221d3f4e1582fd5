"""Places of one gang: where its tasks can run in all hours of a span."""

from gangbooks.notes import Certificate, No


class Shortage(Certificate, No):
    """Shows that a gang has no placing: the bounds of the machines in the span do not suffice."""

    def __init__(self, gang, start, end, rows):
        self.gang = gang
        self.start = start
        self.end = end
        self.rows = rows

    def note(self):
        return ("shortage", self.gang, self.start, self.end, self.rows)


def bounds(takes, gang, span, barred=()):
    """Return for each machine how many tasks of the gang it can take, and the reason."""
    return [bound_of(takes, gang, span, barred, at) for at in range(len(takes.cluster.machines))]


def bar_of(takes, gang, span, barred, at):
    """Return why the machine at this index takes no task of the gang, whatever is free, or None."""
    template = takes.cluster.templates[gang[0]]
    labels = takes.cluster.machines[at].labels
    if at in barred:
        return "barred"
    if not all([label in labels for label in template.needs]):
        return "needs"
    if any([label in labels for label in template.bars]):
        return "bars"
    if template.foes and any([user in template.foes for user in takes.users(at, span)]):
        return "never"
    return None


def bound_of(takes, gang, span, barred, at):
    """Return the pair of bounds for the machine at this index."""
    bar = bar_of(takes, gang, span, barred, at)
    if bar is not None:
        return 0, bar
    count, reason = room_of(takes.free(at, span), takes.cluster.stage_of(gang).amounts)
    if takes.cluster.templates[gang[0]].apart and count > 1:
        return 1, "apart"
    return count, reason


def room_of(free, amounts):
    """Return how many times the amounts are free, and the first resource that allows no more."""
    return min([(max(have, 0) // need, k) for k, (have, need) in enumerate(zip(free, amounts)) if need > 0])


def is_near_kept(cluster, gang, counts):
    """Tell whether the machines with tasks are all in one zone, if the template wishes it."""
    zones = [machine.zone for machine, count in zip(cluster.machines, counts) if count > 0]
    return not cluster.templates[gang[0]].near or len(set(zones)) <= 1


def stands(takes, gang, span, counts, barred=()):
    """Tell whether a row of counts is a placing."""
    limits = bounds(takes, gang, span, barred)
    if any([count > limit for count, (limit, _) in zip(counts, limits)]):
        return False
    return is_near_kept(takes.cluster, gang, counts)


def rows_within(limits, tasks):
    """Return all rows with this sum and no count above its limit, in ascending order."""
    rows = [()]
    for at, limit in enumerate(limits):
        behind = sum(limits[at + 1:])
        rows = [(*row, count) for row in rows
                for count in range(max(0, tasks - sum(row) - behind), min(limit, tasks - sum(row)) + 1)]
    return rows


def placings(takes, gang, span, barred=()):
    """Yield all placings in ascending order."""
    limits = [limit for limit, _ in bounds(takes, gang, span, barred)]
    for counts in rows_within(limits, takes.cluster.stage_of(gang).tasks):
        if is_near_kept(takes.cluster, gang, counts):
            yield counts


def preference(template, machine):
    """Return the number of labels of the machine that the template likes."""
    return len([label for label in machine.labels if label in template.likes])


def worth(cluster, gang, counts):
    """Return the sum of count times preference over all machines."""
    template = cluster.templates[gang[0]]
    return sum([count * preference(template, machine) for machine, count in zip(cluster.machines, counts)])


def turns(takes, gang, span, word):
    """Return the indexes of the machines in the order in which they are filled."""
    template = takes.cluster.templates[gang[0]]
    keys = []
    for at, machine in enumerate(takes.cluster.machines):
        keys.append((-preference(template, machine), free_key(takes.free(at, span), word), at))
    return [at for _, _, at in sorted(keys)]


def free_key(free, word):
    """Return the tuple by which machines of equal preference are put in order."""
    if word == "tight":
        return free.numbers
    return (-free).numbers if word == "loose" else ()


def zone_lists(cluster, gang):
    """Return lists of the machines that may be used together, that with the least index first."""
    if not cluster.templates[gang[0]].near:
        return [list(range(len(cluster.machines)))]
    zones = {}
    for at, machine in enumerate(cluster.machines):
        zones.setdefault(machine.zone, []).append(at)
    return list(zones.values())


def filled(limits, order, tasks):
    """Return the counts if each machine in turn gets as many of the tasks left as its limit allows."""
    counts = [0] * len(limits)
    for at in order:
        counts[at] = min(limits[at], tasks - sum(counts))
    return tuple(counts)


def fit(takes, gang, span, word, barred=()):
    """Return the placing that is found by filling the machines in turn, or a Shortage."""
    cluster = takes.cluster
    tasks = cluster.stage_of(gang).tasks
    rows = bounds(takes, gang, span, barred)
    limits = [limit for limit, _ in rows]
    order = turns(takes, gang, span, word)
    best = None
    for machines in zone_lists(cluster, gang):
        counts = filled(limits, [at for at in order if at in machines], tasks)
        if sum(counts) == tasks and (best is None or worth(cluster, gang, counts) > worth(cluster, gang, best)):
            best = counts
    if best is None:
        return Shortage(gang, span.start, span.end, tuple(rows))
    return best


def takes_of(cluster, gang, span, counts):
    """Return the takes of the tasks of a gang at a place."""
    amounts = cluster.stage_of(gang).amounts
    return [(at, span.start, span.end, (count * amounts).numbers, gang[0])
            for at, count in enumerate(counts) if count > 0]
