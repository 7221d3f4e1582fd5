"""Windows: the hours in which a machine is away."""

from gangbooks.changes import changed, runs_on
from gangbooks.errors import BadHour, Busy, NoRoom, NoWindow
from gangbooks.hours import check_hour
from gangbooks.planning import place_takes, plan_anew, plans_use, replanned
from gangbooks.settle import settled
from gangbooks.spans import Span
from gangbooks.state import hours_left

LONGEST = 48


def refuse_busy(state, machine, span):
    """Raise Busy if a job that runs, or another window, has an hour of the span on the machine."""
    names = [job.name for job in state
             if runs_on(job, machine) and Span(state.hour, state.hour + hours_left(state.cluster, job)) ^ span]
    if names or any([at == machine and Span(start, end) ^ span for at, start, end in state.windows]):
        raise Busy(tuple(names))


def close(state, machine, start, hours):
    """Add a window of so many hours."""
    at = state.cluster.machine_index(machine)
    check_hour(state, start)
    if not 1 <= hours <= LONGEST:
        raise BadHour(hours)
    span = Span(start, start + hours)
    refuse_busy(state, at, span)
    made = changed(state, windows=sorted([*state.windows, (at, span.start, span.end)]))
    deeds = [("away", at)] if start == state.hour else []
    if plans_use(state.cluster, state.jobs, at, span):
        packing = plan_anew(made, made.jobs, place_takes(made, made.jobs), made.down)
        if not packing.holds():
            raise NoRoom(packing)
        jobs, plans = replanned(made.jobs, packing.places)
        made = changed(made, jobs=jobs)
        deeds.extend(plans)
    return settled(made, deeds)


def cancel(state, machine, end):
    """Remove the window of the machine that ends at this hour."""
    at = state.cluster.machine_index(machine)
    found = [window for window in state.windows if window[0] == at and window[2] == end]
    if not found:
        raise NoWindow(machine)
    deeds = [("back", at)] if found[0][1] <= state.hour else []
    return settled(changed(state, windows=[window for window in state.windows if window not in found]), deeds)
