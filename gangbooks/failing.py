"""Machines that fail, and machines that are shut for upkeep."""

from gangbooks.changes import changed, loosened, runs_on, thrown_out
from gangbooks.errors import NoChange
from gangbooks.hours import basic_step
from gangbooks.notes import Certificate, No, Yes
from gangbooks.planning import place_takes, plan_anew, plans_use, replanned
from gangbooks.settle import settled


class Survival(Certificate, Yes):
    """Shows that the plans can be kept: places for each set of machines that may fail."""

    def __init__(self, rows):
        self.rows = rows

    def note(self):
        return ("survival", self.rows)


class Frail(Certificate, No):
    """Shows machines with which a plan fails, with the node of the cases."""

    def __init__(self, machines, node):
        self.machines = machines
        self.node = node

    def note(self):
        return ("frail", self.machines, self.node)


def lose_jobs(state, machine):
    """Return the state without jobs that run on the machine, and the deeds of those that did."""
    jobs = []
    deeds = []
    for job in state:
        made = job
        if runs_on(job, machine):
            made = thrown_out(state.cluster, job)
            deeds.append(("lost", job.name, made.lost - job.lost))
        jobs.append(made)
    return changed(state, jobs=jobs), deeds


def keep_plans(state):
    """Plan the planned stages anew; the jobs for which this fails become loose. Return the state and the deeds."""
    takes = place_takes(state, [job for job in state if job.firm])
    kept = []
    places = ()
    deeds = []
    changes = {}
    for job in state:
        if job.plan != ():
            packing = plan_anew(state, [*kept, job], takes, state.down)
            if packing.holds():
                kept.append(job)
                places = packing.places
            else:
                changes[job.name] = loosened(job)
                deeds.append(("broken", job.name))
    made, plans = replanned(kept, places)
    for job in made:
        changes[job.name] = job
    return changed(state, jobs=[changes.get(job.name, job) for job in state]), [*deeds, *plans]


def fail(state, machine):
    """Take a machine down."""
    at = state.cluster.machine_index(machine)
    if at in state.down:
        raise NoChange(machine)
    made, lost = lose_jobs(changed(state, down=sorted([*state.down, at])), at)
    plans = []
    if plans_use(made.cluster, made.jobs, at, None):
        made, plans = keep_plans(made)
    return settled(made, [("fail", at), *lost, *plans])


def repair(state, machine):
    """Bring a machine back."""
    at = state.cluster.machine_index(machine)
    if at not in state.down:
        raise NoChange(machine)
    return settled(changed(state, down=[other for other in state.down if other != at]), [("repair", at)])


def shut(state, machine):
    """Let nothing new start on a machine."""
    at = state.cluster.machine_index(machine)
    if at in state.shut:
        raise NoChange(machine)
    return settled(changed(state, shut=sorted([*state.shut, at])), [("shut", at)])


def reopen(state, machine):
    """Let a machine that is shut be used again."""
    at = state.cluster.machine_index(machine)
    if at not in state.shut:
        raise NoChange(machine)
    return settled(changed(state, shut=[other for other in state.shut if other != at]), [("reopen", at)])


def failing_step(state, event):
    """Perform an event of this module, fail or repair, or one of basic_step."""
    if event[0] == "fail":
        return fail(state, event[1])
    if event[0] == "repair":
        return repair(state, event[1])
    return basic_step(state, event)


def sets_of(members, size):
    """Return all ascending tuples of so many of the members, in ascending order."""
    sets = [()]
    for _ in range(size):
        sets = [(*chosen, member) for chosen in sets for member in members if chosen == () or member > chosen[-1]]
    return sets


def failing_sets(state, failures):
    """Return the sets of at most so many machines that are up, the smaller ones first."""
    up = [at for at in range(len(state.cluster.machines)) if at not in state.down]
    sets = []
    for size in range(1, min(failures, len(up)) + 1):
        sets.extend(sets_of(up, size))
    return sets


def jobs_beside(state, machines):
    """Return the firm jobs that have no task on these machines."""
    return [job for job in state if job.firm and not any([runs_on(job, at) for at in machines])]


def survives(state, failures):
    """Return a Survival if the plans can be kept whichever machines fail, at most so many, otherwise a Frail."""
    rows = []
    for machines in failing_sets(state, failures):
        jobs = jobs_beside(state, machines)
        packing = plan_anew(state, jobs, place_takes(state, jobs), (*state.down, *machines))
        if not packing.holds():
            return Frail(machines, packing.node)
        rows.append((machines, packing.places))
    return Survival(tuple(rows))
