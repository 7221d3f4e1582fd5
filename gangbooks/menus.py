"""Menus: which events may happen, and all shapes that they lead to."""

from gangbooks.errors import BadMenu, TooWide
from gangbooks.shapes import shape

MOST_MANY = 12
MOST_FAILURES = 6


def free_name(*states):
    """Return x and the least positive integer for which no job of the states has that name."""
    number = 1
    while any([f"x{number}" in state for state in states]):
        number += 1
    return f"x{number}"


class Menu:
    """The templates that may come, up to so many jobs, and the other events that may happen."""

    def __init__(self, *templates, many=2, failures=0, early=False, drops=False):
        for at, name in enumerate(templates):
            if name in templates[:at]:
                raise BadMenu(name)
        self.templates = templates
        self.many = many
        if not 0 <= failures <= MOST_FAILURES:
            raise BadMenu(failures)
        self.failures = failures
        self.early = early
        self.drops = drops

    @property
    def many(self):
        """The number of jobs below which more may come."""
        return self._many

    @many.setter
    def many(self, value):
        if not 1 <= value <= MOST_MANY:
            raise BadMenu(value)
        self._many = value

    def set_many(self, n):
        """Let so many jobs be in a state."""
        self.many = n

    def __call__(self, state):
        events = []
        if len(state) < self.many:
            name = free_name(state)
            events.extend([("come", name, template) for template in self.templates])
        if self.early:
            events.extend([("early", job.name) for job in state if job.place is not None])
        if self.drops:
            events.extend([("drop", job.name) for job in state if job.place is None and not job.firm])
        machines = state.cluster.machines
        if len(state.down) < self.failures:
            events.extend([("fail", machine.name) for at, machine in enumerate(machines) if at not in state.down])
        if self.failures > 0:
            events.extend([("repair", machines[at].name) for at in state.down])
        return [*events, ("tick",)]


def discover(state, menu, step, most):
    """Yield (shape, state, origin, event) for each shape that books of the menu lead to, breadth first.

    The event made the state of the one that was found at the index origin; both are None for the first.
    """
    known = {shape(state): True}
    found = [state]
    yield shape(state), state, None, None
    at = 0
    while at < len(found):
        now = found[at]
        for event in list(menu(now)):
            after, _ = step(now, event)
            form = shape(after)
            if form not in known:
                if len(found) >= most:
                    raise TooWide(most)
                known[form] = True
                found.append(after)
                yield form, after, at, event
        at += 1


def explore(state, menu, step, *, most=1000):
    """Yield (shape, state) for each shape that books of the menu lead to, breadth first."""
    for form, reached, _, _ in discover(state, menu, step, most):
        yield form, reached
