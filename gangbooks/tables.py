"""Tables of the machines and of the jobs of a state."""

from gangbooks.spans import Span
from gangbooks.state import hours_left


def machine_lines(state):
    """Return a line for each machine: its name, whether it is up, and what is used of its amounts."""
    takes = state.takes()
    now = Span(state.hour, state.hour + 1)
    lines = []
    for at, machine in enumerate(state.cluster.machines):
        used = machine.amounts - takes.free(at, now)
        columns = [f"{one:>6}{most:>6}" for one, most in zip(used, machine.amounts)]
        lines.append(f"{machine.name:<9}{condition(state, at):<5}" + "".join(columns))
    return lines


def condition(state, at):
    """Return the word that tells whether the machine at this index is up."""
    if at in state.down:
        return "down"
    return "shut" if at in state.shut else "up"


def job_lines(state):
    """Return a line for each job: what it is, how far it is, and where it runs."""
    return [job_line(state, job) for job in state]


def job_line(state, job):
    """Return the line of a job."""
    template = state.cluster.templates[job.template].name
    bond = "firm" if job.firm else "loose"
    activity = "waits" if job.place is None else "runs"
    left = hours_left(state.cluster, job)
    return f"{job.name:<9}{template:<9}{bond:<6}{activity:<6}{job.stage:>2}{left:>4} {place_text(state.cluster, job)}"


def place_text(cluster, job):
    """Return the machines of a job with their counts, or - if it waits."""
    if job.place is None:
        return "-"
    return ",".join([f"{machine.name}:{count}" for machine, count in zip(cluster.machines, job.place) if count > 0])
