"""Shapes: what the future of a state depends on."""

from gangbooks.policy import Policy
from gangbooks.state import Job, State


def shape(state):
    """Return the shape of a state, with hours that are counted from the present one."""
    windows = sorted([(machine, max(0, start - state.hour), end - state.hour) for machine, start, end in state.windows])
    jobs = tuple([job_shape(job, state.hour) for job in state])
    return ("shape", tuple(state.policy), state.down, state.shut, tuple(windows), jobs)


def job_shape(job, hour):
    """Return what stands for a job in the shape of a state at this hour."""
    plan = tuple([(stage, start - hour, counts) for stage, start, counts in job.plan])
    return (job.template, job.stage, job.done, job.place, 1 if job.firm else 0, plan)


def state_of(cluster, shape):
    """Return the state at hour 0 that has this shape, with jobs x1, x2 and so on."""
    _, words, down, shut, windows, jobs = shape
    made = [job_of(f"x{number}", row) for number, row in enumerate(jobs, start=1)]
    return State(cluster, Policy(*words), 0, down, shut, windows, made)


def job_of(name, row):
    """Return the job with this name for which the row stands in a shape at hour 0."""
    template, stage, done, place, firm, plan = row
    job = Job(name, template, stage=stage, done=done)
    job.place = place
    job.began = None if place is None else 0
    job.firm = firm == 1
    job.plan = plan
    return job
