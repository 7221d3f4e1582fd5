"""Reservations: jobs that are promised their hours."""

from gangbooks.changes import changed, is_due, planned, started_as_planned
from gangbooks.errors import NoRoom
from gangbooks.fitting import Shortage, fit
from gangbooks.hours import check_comer, check_hour
from gangbooks.notes import Certificate, No, Yes
from gangbooks.settle import settled
from gangbooks.spans import Span
from gangbooks.state import Job, job_takes


class Quote(Certificate, Yes):
    """Shows the least hour at which a reservation has its places, and why no earlier one has."""

    def __init__(self, template, hour, places, refusals):
        self.template = template
        self.hour = hour
        self.places = places
        self.refusals = refusals

    def note(self):
        return ("quote", self.template, self.hour, self.places, self.refusals)


class NoQuote(Certificate, No):
    """Shows that a reservation has its places at no hour."""

    def __init__(self, template, refusals):
        self.template = template
        self.refusals = refusals

    def note(self):
        return ("no-quote", self.template, self.refusals)


class Blockers(Certificate, Yes):
    """Shows which reservations must be given up for a new one."""

    def __init__(self, template, hour, rows):
        self.template = template
        self.hour = hour
        self.rows = rows

    def note(self):
        return ("blockers", self.template, self.hour, self.rows)


def find_places(state, takes, template, hour):
    """Return the places of all stages, one after the other from this hour on, or the first Shortage."""
    closed = (*state.down, *state.shut)
    places = []
    for at, stage in enumerate(state.cluster.templates[template].stages):
        span = Span(hour, hour + stage.hours)
        found = fit(takes, (template, at), span, state.policy.place, closed)
        if isinstance(found, Shortage):
            return found
        places.append(found)
        hour = span.end
    return tuple(places)


def plan_of(cluster, template, hour, places):
    """Return the plan of a job whose first stage starts at this hour."""
    plan = []
    for at, stage in enumerate(cluster.templates[template].stages):
        plan.append((at, hour, places[at]))
        hour = hour + stage.hours
    return tuple(plan)


def reserve(state, name, template, hour):
    """Add a firm job that starts at this hour."""
    index = check_comer(state, name, template)
    check_hour(state, hour)
    places = find_places(state, state.takes(), index, hour)
    if isinstance(places, Shortage):
        raise NoRoom(places)
    job = planned(Job(name, index, state.hour), plan_of(state.cluster, index, hour, places))
    job.firm = True
    deeds = []
    if is_due(job, state.hour):
        job = started_as_planned(job, state.hour)
        deeds.append(("start", name, places[0]))
    return settled(changed(state, jobs=(*state.jobs, job)), deeds)


def earliest(state, template, hour):
    """Return a Quote of the least hour, from the given one on, at which a reservation has its places."""
    index = state.cluster.template_index(template)
    check_hour(state, hour)
    takes = state.takes()
    refusals = []
    last = max(takes.ends(), default=0)
    for start in range(hour, max(hour, last) + 1):
        found = find_places(state, takes, index, start)
        if not isinstance(found, Shortage):
            return Quote(index, start, found, tuple(refusals))
        refusals.append((start, found.gang[1], found.rows))
    return NoQuote(index, tuple(refusals))


def waits_for_first_stage(job):
    """Tell whether a job is firm and has not started yet."""
    return job.firm and job.stage == 0 and job.place is None


def in_the_way(state, template, hour):
    """Return the Blockers of a new reservation, or a Shortage if there is no place even without them."""
    index = state.cluster.template_index(template)
    check_hour(state, hour)
    kept = state.takes_with([job for job in state if not waits_for_first_stage(job)])
    alone = find_places(state, kept, index, hour)
    if isinstance(alone, Shortage):
        return alone
    rows = []
    for job in state:
        if waits_for_first_stage(job):
            beside = kept + job_takes(state.cluster, state.hour, job)
            found = find_places(state, beside, index, hour)
            if isinstance(found, Shortage):
                rows.append((job.name, found.gang[1], found.rows))
            else:
                kept = beside
    return Blockers(index, hour, tuple(rows))
