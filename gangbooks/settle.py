"""Settlings: which loose jobs run now."""

from gangbooks.changes import changed, started, thrown_out
from gangbooks.evict import spare
from gangbooks.fitting import Shortage, fit, stands, takes_of
from gangbooks.notes import Certificate, Yes
from gangbooks.picks import gang_of, pick, precedence
from gangbooks.spans import Span
from gangbooks.state import hours_left
from gangbooks.usage import owed, stopped, unused, used_with

# The phases by the policy's word evict; in the phase rest a hold may be given.
PHASES = {"never": ("runs", "rest"), "owed": ("owed", "runs", "rest"), "any": ("all",)}


class Settlement(Certificate, Yes):
    """Shows how the loose jobs were settled: a row for each try, and the state after it."""

    def __init__(self, rows, deeds, hold, after):
        self.rows = rows
        self.deeds = deeds
        self.hold = hold
        self.after = after

    def note(self):
        return ("settled", self.rows, self.deeds, self.hold)


class Settling:
    """A settling under way: the jobs as they are by now, and what the accepted ones and the hold take."""

    def __init__(self, before):
        self.cluster = before.cluster
        self.policy = before.policy
        self.hour = before.hour
        self.closed = (*before.down, *before.shut)
        self.jobs = list(before.jobs)
        self.untried = [at for at, job in enumerate(before.jobs) if not job.firm]
        self.taken = before.base()
        self.used = unused(before.cluster)
        self.rows = []
        self.deeds = []
        self.blocker = None
        self.hold = None
        self.was_short = False

    def span_of(self, at):
        """Return the hours left of a job from the present hour on."""
        return Span(self.hour, self.hour + hours_left(self.cluster, self.jobs[at]))

    def takes_at(self, at):
        """Return the takes of a job at its place."""
        return takes_of(self.cluster, gang_of(self.jobs[at]), self.span_of(at), self.jobs[at].place)

    def runs(self, at):
        """Tell whether a job runs."""
        return self.jobs[at].place is not None

    def running(self):
        """Return the untried jobs that run, the older first."""
        return [at for at in self.untried if self.runs(at)]

    def throw_out(self, at):
        """Let a job that runs wait again."""
        job = self.jobs[at]
        self.jobs[at] = thrown_out(self.cluster, job)
        self.deeds.append(("out", job.name, self.jobs[at].lost - job.lost))

    def accept(self, at):
        """Let the takes and the total of a job that runs count from now on."""
        self.taken = self.taken + self.takes_at(at)
        self.used = used_with(self.cluster, self.used, gang_of(self.jobs[at]))

    def throw_out_clashing(self):
        """Throw out the jobs whose place does not stand beside the base and the older ones."""
        kept = self.taken
        for at in self.running():
            job = self.jobs[at]
            if stands(kept, gang_of(job), self.span_of(at), job.place):
                kept = kept + self.takes_at(at)
            else:
                self.rows.append(("clash", job.name))
                self.throw_out(at)

    def members(self, phase):
        """Return the untried jobs that belong to a phase, the older first."""
        if phase == "owed":
            return [at for at in self.untried if owed(self.cluster, self.used, gang_of(self.jobs[at]))]
        if phase == "runs":
            return self.running()
        return list(self.untried)

    def go_through(self, phase):
        """Try the jobs of a phase until there are none."""
        left = self.members(phase)
        while left:
            at = left[0]
            if phase != "rest" or self.policy.fill != "hold" or self.was_short:
                at = left[pick(self.cluster, self.policy, self.used, [self.jobs[k] for k in left])]
            self.untried.remove(at)
            self.try_job(at, phase)
            left = self.members(phase)

    def try_job(self, at, phase):
        """Accept a job or not, and write its row."""
        job = self.jobs[at]
        stop = stopped(self.cluster, self.used, gang_of(job))
        if stop is not None:
            self.rows.append(("limit", job.name, *stop))
            if self.runs(at):
                self.throw_out(at)
        elif self.runs(at):
            self.rows.append(("stays", job.name))
            self.accept(at)
        elif self.blocker is not None:
            self.rows.append(("behind", job.name, self.blocker))
        else:
            self.try_to_start(at, phase)

    def try_to_start(self, at, phase):
        """Start a job that waits if there is room beside the accepted ones."""
        job = self.jobs[at]
        found = fit(self.taken, gang_of(job), self.span_of(at), self.policy.place, self.closed)
        if not isinstance(found, Shortage):
            self.let_start(at)
            return
        self.rows.append(("rooms", job.name, found.rows))
        if self.policy.fill == "strict":
            self.blocker = job.name
        if phase == "rest" and not self.was_short:
            self.was_short = True
            if self.policy.fill == "hold":
                self.keep_room(at)

    def let_start(self, at):
        """Start a job; of the untried jobs that run those for which there is no room give way."""
        job = self.jobs[at]
        gang, span = gang_of(job), self.span_of(at)
        running = self.running()
        used = used_with(self.cluster, self.used, gang)
        turns = precedence(self.cluster, self.policy, used, [self.jobs[k] for k in running])
        order = [running[turn] for turn in turns]
        out = spare(self.taken, gang, span, [self.takes_at(k) for k in order], self.closed)
        evictions = tuple([(self.jobs[order[k]].name, shortage.rows) for k, shortage in out])
        for k, _ in out:
            self.throw_out(order[k])
        kept = self.taken
        for k in order:
            if self.runs(k):
                kept = kept + self.takes_at(k)
        counts = fit(kept, gang, span, self.policy.place, self.closed)
        self.rows.append(("starts", job.name, counts, evictions))
        self.deeds.append(("start", job.name, counts))
        self.jobs[at] = started(job, self.hour, counts)
        self.accept(at)

    def keep_room(self, at):
        """Give a job that waits a hold at the least hour that has room for it, if there is one."""
        gang, span = gang_of(self.jobs[at]), self.span_of(at)
        last = max(self.taken.ends(), default=0)
        for ahead in range(1, max(1, last - self.hour) + 1):
            counts = fit(self.taken, gang, span >> ahead, "first", self.closed)
            if not isinstance(counts, Shortage):
                self.hold = (self.jobs[at].name, self.hour + ahead, counts)
                self.taken = self.taken + takes_of(self.cluster, gang, span >> ahead, counts)
                self.used = used_with(self.cluster, self.used, gang)
                return


def settle(state):
    """Return the Settlement of the loose jobs of a state."""
    work = Settling(state)
    work.throw_out_clashing()
    for phase in PHASES[state.policy.evict]:
        work.go_through(phase)
    return Settlement(tuple(work.rows), tuple(work.deeds), work.hold, changed(state, jobs=work.jobs))


def settled(state, deeds):
    """Return the state after a settling, and these deeds with those of the settling."""
    settlement = settle(state)
    return settlement.after, [*deeds, *settlement.deeds]
