"""What happens to jobs and states: changed copies."""

from gangbooks.state import Job, State


def copied(job):
    """Return a new job with the attributes of this one."""
    made = Job(job.name, job.template, job.came, stage=job.stage, done=job.done)
    made.began = job.began
    made.place = job.place
    made.firm = job.firm
    made.plan = job.plan
    made.ran = job.ran
    made.lost = job.lost
    made.evicted = job.evicted
    return made


def placed(job, counts):
    """Return the job with another place."""
    made = copied(job)
    made.place = counts
    return made


def started(job, hour, counts):
    """Return the job with a place that it gets at this hour."""
    made = placed(job, counts)
    if made.began is None:
        made.began = hour
    return made


def planned(job, plan):
    """Return the job with another plan."""
    made = copied(job)
    made.plan = plan
    return made


def is_due(job, hour):
    """Tell whether the next planned stage of the job starts at this hour."""
    return job.plan != () and job.plan[0][1] == hour


def started_as_planned(job, hour):
    """Return the job in the place of its next planned stage."""
    _, _, counts = job.plan[0]
    return planned(started(job, hour, counts), job.plan[1:])


def loosened(job):
    """Return the job without its reservation."""
    made = copied(job)
    made.firm = False
    made.plan = ()
    return made


def thrown_out(cluster, job):
    """Return the job as it waits when it is thrown out, loose and back at its last checkpoint."""
    made = loosened(job)
    every = cluster.templates[job.template].every
    made.done = 0 if every == 0 else job.done - job.done % every
    made.lost = job.lost + job.done - made.done
    made.evicted = job.evicted + 1
    made.place = None
    return made


def worked(job):
    """Return the job after an hour of work."""
    made = copied(job)
    made.ran = job.ran + 1
    made.done = job.done + 1
    return made


def runs_on(job, machine):
    """Tell whether the job runs with a task on the machine."""
    return job.place is not None and job.place[machine] > 0


def leaving_deed(word, job):
    """Return the deed of a job that leaves."""
    return word, job.name, job.ran, job.lost, job.evicted


def stage_ended(cluster, job):
    """Return the job after the end of its stage, or None if it leaves, and the deed."""
    if job.stage + 1 == len(cluster.templates[job.template].stages):
        return None, leaving_deed("end", job)
    made = copied(job)
    made.stage = job.stage + 1
    made.done = 0
    made.place = None
    return made, ("stage", job.name, made.stage)


def changed(state, *, policy=None, hour=None, down=None, shut=None, windows=None, jobs=None):
    """Return a state in which those attributes are others that are given."""
    return State(
        state.cluster,
        state.policy if policy is None else policy,
        state.hour if hour is None else hour,
        state.down if down is None else down,
        state.shut if shut is None else shut,
        state.windows if windows is None else windows,
        state.jobs if jobs is None else jobs)
