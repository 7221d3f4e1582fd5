"""Settling word by word as in points 38 to 40, on plain dicts; slow, and without the program's own settling."""

from gangbooks.evict import spare
from gangbooks.fitting import Shortage, fit, stands, takes_of
from gangbooks.picks import pick, precedence
from gangbooks.spans import Span
from gangbooks.state import Job
from gangbooks.takes import Takes
from gangbooks.usage import owed, stopped, used_by

NAMES = ("name", "template", "came", "began", "stage", "done", "place", "firm", "plan", "ran", "lost", "evicted")


def as_dict(job):
    return {name: getattr(job, name) for name in NAMES}


class Plain:
    def __init__(self, state):
        self.state = state
        self.cluster, self.policy, self.hour = state.cluster, state.policy, state.hour
        self.barred = tuple(state.down) + tuple(state.shut)
        self.jobs = {job.name: as_dict(job) for job in state}
        self.untried = [job.name for job in state if not job.firm]
        self.accepted = []
        self.hold = None
        self.holder = None
        self.blocker = None
        self.rows, self.deeds = [], []
        self.first_rooms_of_last_phase = None

    def gang(self, name):
        return (self.jobs[name]["template"], self.jobs[name]["stage"])

    def span(self, name, hour=None):
        start = self.hour if hour is None else hour
        return Span(start, start + self.cluster.stage_of(self.gang(name)).hours - self.jobs[name]["done"])

    def own_takes(self, name):
        return takes_of(self.cluster, self.gang(name), self.span(name), self.jobs[name]["place"])

    def base(self):
        rows = [(m, max(self.hour, s), e, self.cluster.machines[m].amounts.numbers, -1) for m, s, e in self.state.windows]
        for job in self.state:
            if job.firm:
                if job.place is not None:
                    rows += self.own_takes(job.name)
                for stage, start, counts in job.plan:
                    gang = (job.template, stage)
                    rows += takes_of(self.cluster, gang, Span(start, start + self.cluster.stage_of(gang).hours), counts)
        return rows

    def counting(self):
        rows = self.base()
        for name in self.accepted:
            rows += self.own_takes(name)
        if self.hold is not None:
            name, hour, counts = self.hold
            rows += takes_of(self.cluster, self.gang(name), self.span(name, hour), counts)
        return Takes(self.cluster, rows)

    def used(self, *more):
        gangs = [self.gang(name) for name in self.accepted] + list(more)
        if self.hold is not None:
            gangs.append(self.gang(self.hold[0]))
        return used_by(self.cluster, gangs)

    def as_jobs(self, names):
        made = []
        for name in names:
            job = Job("x", 0)
            for key, value in self.jobs[name].items():
                setattr(job, key, value)
            made.append(job)
        return made

    def throw_out(self, name):
        job = self.jobs[name]
        every = self.cluster.templates[job["template"]].every
        kept = max(k for k in range(job["done"] + 1) if (k == 0 if every == 0 else k % every == 0))
        self.deeds.append(("out", name, job["done"] - kept))
        job["lost"] += job["done"] - kept
        job["done"] = kept
        job["evicted"] += 1
        job["place"] = None

    def run(self):
        older = []
        for name in list(self.untried):
            if self.jobs[name]["place"] is not None:
                rows = self.base()
                for other in older:
                    rows += self.own_takes(other)
                if stands(Takes(self.cluster, rows), self.gang(name), self.span(name), self.jobs[name]["place"]):
                    older.append(name)
                else:
                    self.rows.append(("clash", name))
                    self.throw_out(name)
        running = lambda name: self.jobs[name]["place"] is not None
        is_owed = lambda name: owed(self.cluster, self.used(), self.gang(name))
        everything = lambda name: True
        if self.policy.evict == "never":
            self.phase(running)
            self.phase(everything, last=True)
        elif self.policy.evict == "owed":
            self.phase(is_owed, evictions=True)
            self.phase(running)
            self.phase(everything, last=True)
        else:
            self.phase(everything, evictions=True)
        jobs = tuple(tuple(int(job[name]) if name == "firm" else job[name] for name in NAMES)
                     for job in self.jobs.values())
        return tuple(self.rows), tuple(self.deeds), self.hold, jobs

    def phase(self, belongs, evictions=False, last=False):
        while True:
            names = [name for name in self.untried if belongs(name)]
            if not names:
                return
            if last and self.policy.fill == "hold" and self.first_rooms_of_last_phase is None:
                name = names[0]
            else:
                name = names[pick(self.cluster, self.policy, self.used(), self.as_jobs(names))]
            self.untried.remove(name)
            self.attempt(name, evictions, last)

    def attempt(self, name, evictions, last):
        job = self.jobs[name]
        stop = stopped(self.cluster, self.used(), self.gang(name))
        if stop is not None:
            self.rows.append(("limit", name, stop[0], stop[1]))
            if job["place"] is not None:
                self.throw_out(name)
            return
        if job["place"] is not None:
            self.rows.append(("stays", name))
            self.accepted.append(name)
            return
        if self.blocker is not None:
            self.rows.append(("behind", name, self.blocker))
            return
        takes = self.counting()
        first = fit(takes, self.gang(name), self.span(name), self.policy.place, self.barred)
        if isinstance(first, Shortage):
            self.rows.append(("rooms", name, first.rows))
            self.after_rooms(name, last)
            return
        out = []
        if evictions:
            running = [other for other in self.untried if self.jobs[other]["place"] is not None]
            order = precedence(self.cluster, self.policy, self.used(self.gang(name)), self.as_jobs(running))
            lists = [self.own_takes(running[k]) for k in order]
            found = spare(takes, self.gang(name), self.span(name), lists, self.barred)
            gone = [at for at, _ in found]
            for at, rows in enumerate(lists):
                if at not in gone:
                    takes = takes + rows
            for at, shortage in found:
                self.throw_out(running[order[at]])
                out.append((running[order[at]], shortage.rows))
        counts = fit(takes, self.gang(name), self.span(name), self.policy.place, self.barred)
        self.rows.append(("starts", name, counts, tuple(out)))
        self.deeds.append(("start", name, counts))
        job["place"] = counts
        if job["began"] is None:
            job["began"] = self.hour
        self.accepted.append(name)

    def after_rooms(self, name, last):
        if self.policy.fill == "strict":
            self.blocker = name
        if last and self.first_rooms_of_last_phase is None:
            self.first_rooms_of_last_phase = name
            if self.policy.fill == "hold":
                takes = self.counting()
                hour = self.hour + 1
                while self.hold is None and hour <= max([self.hour + 1, *takes.ends()]):
                    counts = fit(takes, self.gang(name), self.span(name, hour), "first", self.barred)
                    if not isinstance(counts, Shortage):
                        self.hold = (name, hour, counts)
                    hour += 1


def plain_settle(state):
    """Return rows, deeds, hold and the notes of the jobs after a settling."""
    return Plain(state).run()
