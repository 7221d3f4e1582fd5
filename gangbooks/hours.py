"""Events of loose jobs, and the hours that pass."""

from gangbooks.changes import changed, is_due, leaving_deed, stage_ended, started_as_planned, worked
from gangbooks.errors import BadEvent, BadHour, BadName, Full, NotRunning, Taken
from gangbooks.policy import Policy
from gangbooks.settle import settled
from gangbooks.signs import is_name
from gangbooks.state import Job, hours_left

MOST_JOBS = 12
MOST_AHEAD = 200


def check_comer(state, name, template):
    """Return the index of the template; raise an error if a job with this name cannot come."""
    if not is_name(name):
        raise BadName(name)
    if name in state:
        raise Taken(name)
    index = state.cluster.template_index(template)
    if len(state) >= MOST_JOBS:
        raise Full(MOST_JOBS)
    return index


def check_hour(state, hour):
    """Raise BadHour if the hour has passed or is too far away to be asked for."""
    if not state.hour <= hour <= state.hour + MOST_AHEAD:
        raise BadHour(hour)


def check_running(state, name):
    """Return the job with this name; raise an error if there is none or if it waits."""
    job = state[name]
    if job.place is None:
        raise NotRunning(name)
    return job


def come(state, name, template):
    """Add a loose job that waits."""
    job = Job(name, check_comer(state, name, template), state.hour)
    return settled(changed(state, jobs=(*state.jobs, job)), [])


def drop(state, name):
    """Take a job out."""
    gone = state[name]
    return settled(changed(state, jobs=[job for job in state if job.name != name]), [leaving_deed("drop", gone)])


def early(state, name):
    """End the stage of a job that runs."""
    ended, deed = stage_ended(state.cluster, check_running(state, name))
    jobs = [ended if job.name == name else job for job in state]
    return settled(changed(state, jobs=[job for job in jobs if job is not None]), [deed])


def work_an_hour(state):
    """Return the jobs after an hour of work, and the deeds of the stages that end."""
    jobs = []
    deeds = []
    for job in state:
        made = job
        if job.place is not None:
            made = worked(job)
            if hours_left(state.cluster, made) == 0:
                made, deed = stage_ended(state.cluster, made)
                deeds.append(deed)
        if made is not None:
            jobs.append(made)
    return jobs, deeds


def tick(state):
    """Let an hour pass."""
    hour = state.hour + 1
    worked_jobs, deeds = work_an_hour(state)
    deeds.extend([("back", machine) for machine, _, end in state.windows if end == hour])
    deeds.extend([("away", machine) for machine, start, _ in state.windows if start == hour])
    jobs = []
    for job in worked_jobs:
        if is_due(job, hour):
            deeds.append(("start", job.name, job.plan[0][2]))
            jobs.append(started_as_planned(job, hour))
        else:
            jobs.append(job)
    windows = [window for window in state.windows if window[2] != hour]
    return settled(changed(state, hour=hour, windows=windows, jobs=jobs), deeds)


def change(state, policy):
    """Give the state another policy."""
    return settled(changed(state, policy=policy), [])


def basic_step(state, event):
    """Perform an event of this module."""
    if event[0] == "come":
        return come(state, event[1], event[2])
    if event[0] == "drop":
        return drop(state, event[1])
    if event[0] == "early":
        return early(state, event[1])
    if event[0] == "tick":
        return tick(state)
    if event[0] == "policy":
        return change(state, Policy(event[1], event[2], event[3], event[4]))
    raise BadEvent(event)
