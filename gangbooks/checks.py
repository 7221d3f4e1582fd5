"""Checkers of the certificates about places, groups and single states."""

from gangbooks.changes import runs_on
from gangbooks.errors import BadHour, GangError, TooWide
from gangbooks.failing import Frail, Survival, failing_sets, jobs_beside
from gangbooks.fitting import Shortage, bounds, stands, takes_of, zone_lists
from gangbooks.levels import (
    Levels, children_of, divided_groups, mode_of, needs_of, parts_at, rows_below, sum_of, wanted_by)
from gangbooks.lots import Crowded, FloorPlan, is_full, lot_items, lots_within
from gangbooks.moving import MovePlan, Stuck, moved, moves_of, places_of, with_place
from gangbooks.packing import CaseTree, Packing, possible_rows, short_node
from gangbooks.picks import gang_of
from gangbooks.planning import place_takes, plan_items
from gangbooks.reserve import Blockers, NoQuote, Quote, find_places, in_the_way
from gangbooks.settle import Settlement, settle
from gangbooks.shares import Share
from gangbooks.spans import Span
from gangbooks.takes import Takes


def is_index(at, rows):
    """Tell whether there is a member with this index."""
    return 0 <= at < len(rows)


def is_row_of_counts(cluster, gang, counts):
    """Tell whether a tuple of integers is a row of counts for the gang."""
    if len(counts) != len(cluster.machines) or min(counts) < 0:
        return False
    return sum(counts) == cluster.stage_of(gang).tasks


def is_short(cluster, gang, rows):
    """Tell whether these bounds of all machines do not suffice for the gang."""
    sums = [sum([rows[at][0] for at in machines]) for machines in zone_lists(cluster, gang)]
    return max(sums) < cluster.stage_of(gang).tasks


def check_shortage(takes, shortage, barred=()):
    """Tell whether a Shortage is right."""
    if not isinstance(shortage, Shortage) or not 0 <= shortage.start < shortage.end:
        return False
    templates = takes.cluster.templates
    template, stage = shortage.gang
    if not is_index(template, templates) or not is_index(stage, templates[template].stages):
        return False
    rows = bounds(takes, shortage.gang, Span(shortage.start, shortage.end), barred)
    return shortage.rows == tuple(rows) and is_short(takes.cluster, shortage.gang, rows)


def is_possible(takes, item, counts, barred, shut):
    """Tell whether a tuple of integers is a row of counts that is possible for the item."""
    gang, span, present = item
    closed = barred if counts == present else (*barred, *shut)
    return is_row_of_counts(takes.cluster, gang, counts) and stands(takes, gang, span, counts, closed)


def check_packing(takes, items, packing, *, barred=(), shut=()):
    """Tell whether a Packing is right."""
    if not isinstance(packing, Packing) or len(packing.places) != len(items):
        return False
    here = takes
    for item, counts in zip(items, packing.places):
        if not is_possible(here, item, counts, barred, shut):
            return False
        here = with_item(here, item, counts)
    return True


def with_item(takes, item, counts):
    """Return the takes with those of an item at a place."""
    gang, span, _ = item
    return takes + takes_of(takes.cluster, gang, span, counts)


def check_tree(takes, items, tree, *, barred=(), shut=()):
    """Tell whether a CaseTree is right."""
    return isinstance(tree, CaseTree) and is_node(takes, items, tree.node, barred, shut)


def is_node(takes, items, node, barred, shut):
    """Tell whether a tuple is the node of the first item that shows that the items cannot be packed."""
    # A node of many items may be too deep for a call at each level.
    waiting = [(takes, 0, node)]
    while waiting:
        here, at, case = waiting.pop()
        if at == len(items):
            return False
        rows = possible_rows(here, items[at], barred, shut)
        if not rows and case != short_node(here, items[at], barred, shut):
            return False
        if rows and not are_cases(rows, case):
            return False
        if rows:
            waiting.extend([(with_item(here, items[at], counts), at + 1, behind) for counts, behind in case[1:]])
    return True


def are_cases(rows, node):
    """Tell whether a tuple has a pair of each of the rows and a node behind it."""
    if len(node) != len(rows) + 1 or node[0] != "cases":
        return False
    return all([isinstance(case, tuple) and len(case) == 2 and case[0] == counts and isinstance(case[1], tuple)
                for counts, case in zip(rows, node[1:])])


def check_levels(wants, levels):
    """Tell whether Levels are right."""
    if not isinstance(levels, Levels) or levels.amount.sign < 0:
        return False
    if levels.resource != wants.resource or levels.wanted != wanted_by(wants):
        return False
    if len(levels.shares) != len(levels.wanted):
        return False
    if [group for group, _, _ in levels.rows] != divided_groups(wants.cluster):
        return False
    return all([is_divided(wants, levels, group, mode, level) for group, mode, level in levels.rows])


def is_divided(wants, levels, group, mode, level):
    """Tell whether mode, level and shares are right for what is divided below a group, or among the top groups."""
    needs = needs_of(wants.cluster, wants.resource, levels.wanted)
    whole = levels.amount if group == -1 else levels.shares[group]
    right, bands = mode_of(whole, rows_below(wants.cluster, wants.resource, needs, group))
    shares = [levels.shares[at] for at in children_of(wants.cluster, group)]
    if mode != right:
        return False
    if mode == "all":
        return level is None and shares == parts_at(Share(0), bands)
    if level is None or not is_least(level, bands):
        return False
    return shares == parts_at(level, bands) and sum_of(shares) == whole


def is_least(level, bands):
    """Tell whether a level is not negative, and any lesser one that is not negative gives the bands less."""
    if level.sign <= 0:
        return level.sign == 0
    return any([(level * weight - low).sign > 0 and (high - level * weight).sign >= 0 for low, high, weight in bands])


def check_floors(cluster, certificate):
    """Tell whether a FloorPlan or a Crowded is right."""
    try:
        lots = lots_within(cluster)
    except TooWide:
        return False
    empty = Takes(cluster, [])
    if isinstance(certificate, FloorPlan):
        if [lot for lot, _ in certificate.rows] != [lot for lot in lots if is_full(cluster, lot)]:
            return False
        return all([check_packing(empty, lot_items(lot), Packing(places)) for lot, places in certificate.rows])
    if not isinstance(certificate, Crowded) or certificate.lot not in lots:
        return False
    return check_tree(empty, lot_items(certificate.lot), CaseTree(certificate.node))


def check_settlement(state, settlement):
    """Tell whether the rows, the deeds and the hold of a Settlement are right."""
    return isinstance(settlement, Settlement) and settlement.note() == settle(state).note()


def check_quote(state, certificate):
    """Tell whether a Quote or a NoQuote is right."""
    if not isinstance(certificate, Quote) and not isinstance(certificate, NoQuote):
        return False
    if not is_index(certificate.template, state.cluster.templates):
        return False
    hours = [hour for hour, _, _ in certificate.refusals]
    if not all([hour >= state.hour and hour == hours[0] + at for at, hour in enumerate(hours)]):
        return False
    takes = state.takes()
    if not all([is_refused(state, takes, certificate.template, row) for row in certificate.refusals]):
        return False
    if isinstance(certificate, NoQuote):
        return hours != [] and hours[-1] >= max(takes.ends(), default=0)
    if certificate.hour < state.hour or (hours and certificate.hour != hours[-1] + 1):
        return False
    return places_stand(state, takes, certificate)


def is_refused(state, takes, template, row):
    """Tell whether a row (hour, stage, rows) shows that a reservation has no places at the hour."""
    hour, stage, rows = row
    found = find_places(state, takes, template, hour)
    return isinstance(found, Shortage) and found.gang == (template, stage) and found.rows == rows


def places_stand(state, takes, quote):
    """Tell whether there is a placing for each stage of a Quote, one behind the other from its hour on."""
    closed = (*state.down, *state.shut)
    stages = state.cluster.templates[quote.template].stages
    if len(quote.places) != len(stages):
        return False
    hour = quote.hour
    for at, counts in enumerate(quote.places):
        span = Span(hour, hour + stages[at].hours)
        if not is_possible(takes, ((quote.template, at), span, None), counts, closed, ()):
            return False
        hour = span.end
    return True


def check_blockers(state, blockers):
    """Tell whether Blockers are right."""
    if not isinstance(blockers, Blockers) or not is_index(blockers.template, state.cluster.templates):
        return False
    try:
        found = in_the_way(state, state.cluster.templates[blockers.template].name, blockers.hour)
    except BadHour:
        return False
    return isinstance(found, Blockers) and blockers.note() == found.note()


def check_moves(state, certificate):
    """Tell whether a MovePlan or a Stuck is right."""
    if isinstance(certificate, MovePlan):
        return is_index(certificate.machine, state.cluster.machines) and moves_empty(state, certificate)
    if isinstance(certificate, Stuck):
        return is_index(certificate.machine, state.cluster.machines) and places_stay(state, certificate)
    return False


def moves_empty(state, plan):
    """Tell whether the moves of a MovePlan are allowed and leave no job that runs on its machine."""
    now = state
    for name, counts in plan.moves:
        try:
            now = moved(now, name, counts, (plan.machine,))
        except GangError:
            return False
    return not any([runs_on(job, plan.machine) for job in now])


def places_stay(state, stuck):
    """Tell whether the tuples of places of a Stuck are ascending, include the present one, and no move leaves them."""
    running = [job for job in state if job.place is not None]
    for places in stuck.places:
        if len(places) != len(running):
            return False
        if not all([is_row_of_counts(state.cluster, gang_of(job), counts) for job, counts in zip(running, places)]):
            return False
    known = {places: True for places in stuck.places}
    if list(stuck.places) != sorted(list(known)) or places_of(state) not in known:
        return False
    return all([is_closed(state, stuck.machine, places, known) for places in stuck.places])


def is_closed(state, machine, places, known):
    """Tell whether jobs that run in these places use the machine, and each allowed move leads to known ones."""
    running = [job.name for job in state if job.place is not None]
    now = state
    for name, counts in zip(running, places):
        now = with_place(now, name, counts)
    if not any([runs_on(job, machine) for job in now]):
        return False
    return all([places_of(with_place(now, name, counts)) in known
                for name in running for counts in moves_of(now, now[name], (machine,))])


def check_survival(state, failures, certificate):
    """Tell whether a Survival or a Frail is right."""
    if isinstance(certificate, Survival):
        if [machines for machines, _ in certificate.rows] != failing_sets(state, failures):
            return False
        return all([survives_with(state, machines, Packing(places)) for machines, places in certificate.rows])
    if not isinstance(certificate, Frail):
        return False
    machines = certificate.machines
    if len(machines) > failures or list(machines) != sorted(set(machines)):
        return False
    if not all([is_index(at, state.cluster.machines) and at not in state.down for at in machines]):
        return False
    return survives_with(state, machines, CaseTree(certificate.node))


def survives_with(state, machines, found):
    """Tell whether a Packing or a CaseTree is right for the plans that are left if the machines fail."""
    jobs = jobs_beside(state, machines)
    items = plan_items(state.cluster, jobs)
    takes = place_takes(state, jobs)
    barred = (*state.down, *machines)
    if isinstance(found, Packing):
        return check_packing(takes, items, found, barred=barred, shut=state.shut)
    return check_tree(takes, items, found, barred=barred, shut=state.shut)
