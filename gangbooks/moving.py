"""Moves: jobs that run get other places without losing work."""

from math import comb

from gangbooks.changes import changed, placed, runs_on
from gangbooks.errors import BadMove, NoChange, NoRoom, TooWide
from gangbooks.fitting import bar_of, is_near_kept, room_of, rows_within
from gangbooks.hours import check_running
from gangbooks.notes import Certificate, No, Yes
from gangbooks.packing import WIDEST
from gangbooks.picks import gang_of
from gangbooks.planning import place_takes, plan_anew, plans_use, replanned
from gangbooks.settle import settled
from gangbooks.spans import Span
from gangbooks.state import hours_left


class MovePlan(Certificate, Yes):
    """Shows the moves after which no job that runs has a task on the machine."""

    def __init__(self, machine, moves):
        self.machine = machine
        self.moves = moves

    def note(self):
        return ("moves", self.machine, self.moves)


class Stuck(Certificate, No):
    """Shows that no moves empty the machine: all places that they can lead to."""

    def __init__(self, machine, places):
        self.machine = machine
        self.places = places

    def note(self):
        return ("stuck", self.machine, self.places)


def with_place(state, name, counts):
    """Return the state in which the job with this name has another place."""
    return changed(state, jobs=[placed(job, counts) if job.name == name else job for job in state])


def rooms_beside(state, job, barred):
    """Return for each machine how many more tasks of the job that runs a move may put there."""
    gang = gang_of(job)
    amounts = state.cluster.stage_of(gang).amounts
    span = Span(state.hour, state.hour + hours_left(state.cluster, job))
    takes = state.takes()
    others = with_place(state, job.name, None).takes()
    closed = (*state.down, *state.shut, *barred)
    return [room_of(takes.free(at, span), amounts)[0] if bar_of(others, gang, span, closed, at) is None else 0
            for at in range(len(state.cluster.machines))]


def moves_of(state, job, barred):
    """Return the rows of counts, in ascending order, to which a move of the job that runs is allowed."""
    gang = gang_of(job)
    limits = [here + room for here, room in zip(job.place, rooms_beside(state, job, barred))]
    apart = state.cluster.templates[job.template].apart
    return [counts for counts in rows_within(limits, sum(job.place))
            if counts != job.place and is_near_kept(state.cluster, gang, counts) and (max(counts) <= 1 or not apart)]


def allowed(state, name, counts, barred=()):
    """Tell whether a move of the job to a row of counts is allowed."""
    return counts in moves_of(state, check_running(state, name), barred)


def moved(state, name, counts, barred=()):
    """Return the state that a move leaves, without settling it."""
    if not allowed(state, name, counts, barred):
        raise BadMove(counts)
    return with_place(state, name, counts)


def places_of(state):
    """Return the places of the jobs that run, the older first."""
    return tuple([job.place for job in state if job.place is not None])


def refuse_many_places(state):
    """Raise TooWide if the jobs that run have too many rows of counts together."""
    others = len(state.cluster.machines) - 1
    width = 1
    for counts in places_of(state):
        width = width * comb(sum(counts) + others, others)
    if width > WIDEST:
        raise TooWide(WIDEST)


def move_plan(state, machine):
    """Return the MovePlan with the first of the shortest lists of moves that empty a machine, or a Stuck."""
    at = state.cluster.machine_index(machine)
    refuse_many_places(state)
    lists = {places_of(state): ()}
    met = [state]
    tried = 0
    # States are met in the order of their lists of moves: the shorter first, then as moves compare.
    while tried < len(met):
        now = met[tried]
        tried += 1
        moves = lists[places_of(now)]
        if not any([runs_on(job, at) for job in now]):
            return MovePlan(at, moves)
        for job in list(now):
            if job.place is not None:
                for counts in moves_of(now, job, (at,)):
                    after = with_place(now, job.name, counts)
                    if places_of(after) not in lists:
                        lists[places_of(after)] = (*moves, (job.name, counts))
                        met.append(after)
    return Stuck(at, tuple(sorted(list(lists))))


def drain(state, machine):
    """Move all jobs that run away from a machine and shut it."""
    at = state.cluster.machine_index(machine)
    if at in state.down:
        raise NoChange(machine)
    found = move_plan(state, machine)
    if not found.holds():
        raise NoRoom(found)
    made = state
    deeds = []
    for name, counts in found.moves:
        made = with_place(made, name, counts)
        deeds.append(("move", name, counts))
    if plans_use(made.cluster, made.jobs, at, None):
        packing = plan_anew(made, made.jobs, place_takes(made, made.jobs), (*made.down, at))
        if not packing.holds():
            raise NoRoom(packing)
        jobs, plans = replanned(made.jobs, packing.places)
        made = changed(made, jobs=jobs)
        deeds.extend(plans)
    if at not in made.shut:
        made = changed(made, shut=sorted([*made.shut, at]))
        deeds.append(("shut", at))
    return settled(made, deeds)
