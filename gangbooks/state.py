"""States: the jobs of a cluster at an hour, and what they take."""

from gangbooks.errors import Unknown
from gangbooks.fitting import takes_of
from gangbooks.notes import write_note
from gangbooks.spans import Span
from gangbooks.takes import Takes


class Job:
    """A job; a new one is loose and waits."""

    def __init__(self, name, template, came=0, *, stage=0, done=0):
        self.name = name
        self.template = template
        self.came = came
        self.began = None
        self.stage = stage
        self.done = done
        self.place = None
        self.firm = False
        self.plan = ()
        self.ran = 0
        self.lost = 0
        self.evicted = 0


def hours_left(cluster, job):
    """Return the hours of the job's stage that are not done."""
    return cluster.stage_of((job.template, job.stage)).hours - job.done


def job_note(job):
    """Return the note of a job, its attributes in their order."""
    return (job.name, job.template, job.came, job.began, job.stage, job.done, job.place,
            1 if job.firm else 0, job.plan, job.ran, job.lost, job.evicted)


def window_take(cluster, hour, window):
    """Return the take of a window from this hour on."""
    machine, start, end = window
    return machine, max(start, hour), end, cluster.machines[machine].amounts.numbers, -1


def job_takes(cluster, hour, job):
    """Return the takes of a job's place from this hour on, then those of its plan."""
    rows = []
    if job.place is not None:
        span = Span(hour, hour + hours_left(cluster, job))
        rows.extend(takes_of(cluster, (job.template, job.stage), span, job.place))
    for stage, start, counts in job.plan:
        gang = (job.template, stage)
        span = Span(start, start + cluster.stage_of(gang).hours)
        rows.extend(takes_of(cluster, gang, span, counts))
    return rows


class State:
    """A cluster with its policy and its jobs at an hour."""

    def __init__(self, cluster, policy, hour, down, shut, windows, jobs):
        self.cluster = cluster
        self.policy = policy
        self.hour = hour
        self.down = tuple(down)
        self.shut = tuple(shut)
        self.windows = tuple(windows)
        self.jobs = tuple(jobs)

    @classmethod
    def empty(cls, cluster, policy):
        """Return the state at hour 0 without jobs and windows, in which all machines are up."""
        return cls(cluster, policy, 0, (), (), (), ())

    def takes(self):
        """Return the takes of the windows and of all jobs."""
        return self.takes_with(self.jobs)

    def base(self):
        """Return the takes of the windows and of the firm jobs."""
        return self.takes_with([job for job in self.jobs if job.firm])

    def takes_with(self, jobs):
        """Return the takes of the windows and of these jobs."""
        rows = [window_take(self.cluster, self.hour, window) for window in self.windows]
        for job in jobs:
            rows.extend(job_takes(self.cluster, self.hour, job))
        return Takes(self.cluster, rows)

    def left(self, name):
        """Return the hours left of the job with this name."""
        return hours_left(self.cluster, self[name])

    def note(self):
        """Return the state as a note."""
        policy = self.policy
        words = (policy.order, policy.place, policy.evict, policy.fill)
        jobs = tuple([job_note(job) for job in self.jobs])
        return ("state", self.hour, words, self.down, self.shut, self.windows, jobs)

    def text(self):
        """Return the text of the state's note."""
        return write_note(self.note())

    def __getitem__(self, at):
        for job in self.jobs:
            if job.name == at:
                return job
        raise Unknown(at)

    def __contains__(self, x):
        return any([job.name == x for job in self.jobs])

    def __len__(self):
        return len(self.jobs)

    def __iter__(self):
        return iter(self.jobs)
