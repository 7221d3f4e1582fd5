"""The ways in which a job that came in a book can wait, and how long each can last."""

from gangbooks.search import Search
from gangbooks.shapes import shape

TICK = ("tick",)


def has_begun(state, name):
    """Tell whether the job with this name has begun."""
    return state[name].began is not None


def comings(menu, state, template):
    """Return the events of the menu by which a job of the template comes."""
    return [event for event in menu(state) if event[0] == "come" and event[2] == template]


def way_of(state, name):
    """Return the pair that stands for the job with this name as it waits: the shape and its index."""
    return shape(state), [job.name for job in state].index(name)


def waiting_events(menu, state, name):
    """Return the events of the menu but that the job with this name is dropped."""
    return [event for event in menu(state) if event != ("drop", name)]


class Ways:
    """The ways in which a job can wait, with the events that lead from one to another."""

    def __init__(self, most):
        self.search = Search(most)
        # For each way the one that a tick leads to, or None if the job begins then.
        self.ticks = {}
        # For each way the pairs of a way and of the place, among its waiting events, of one that leads here
        # without a tick.
        self.before = {}

    def meet(self, state, name):
        """Return the index of the way in which the job waits, or None if it has begun."""
        if has_begun(state, name):
            return None
        return self.search.meet(way_of(state, name), (state, name))

    def go_on(self, at, menu, step):
        """Perform the events behind a way."""
        state, name = self.search.things[at]
        for place, event in enumerate(list(waiting_events(menu, state, name))):
            after, _ = step(state, event)
            behind = self.meet(after, name)
            if event == TICK:
                self.ticks[at] = behind
            elif behind is not None:
                self.before.setdefault(behind, []).append((at, place))


def lead_to(ways, ends):
    """Return all ways that can lead to one of these without a tick, each with the place of the next event.

    That is the shortest way there; None stands for the tick that follows at the ends.
    """
    places = {at: None for at in ends}
    queue = list(ends)
    tried = 0
    while tried < len(queue):
        for at, place in list(ways.before.get(queue[tried], [])):
            if at not in places:
                places[at] = place
                queue.append(at)
        tried += 1
    return places


def last_ticks(ways):
    """Return the greatest number of ticks that each way can last, and the place of the event that comes next then.

    The number is None for the ways that can last for ever.
    """
    numbers = {at: 1 for at in ways.ticks}
    places = {at: None for at in ways.ticks}
    lasting = {at: True for at in ways.ticks}
    number = 1
    # Those that last one tick more lead to a tick into one of those that have lasted so far.
    while lasting:
        longer = lead_to(ways, [at for at in lasting if ways.ticks[at] in lasting])
        endless = len(longer) == len(lasting)
        number += 1
        for at, place in list(longer.items()):
            numbers[at] = None if endless else number
            places[at] = place
        lasting = {} if endless else {at: True for at in longer}
    return numbers, places


def find_ways(states, menu, template, step, most):
    """Return the ways, and for each coming of a job of the template the index of its state, its event and its way."""
    ways = Ways(most)
    begins = []
    for at, state in enumerate(list(states)):
        for event in list(comings(menu, state, template)):
            after, _ = step(state, event)
            begins.append((at, event, ways.meet(after, event[1])))
    tried = 0
    while tried < len(ways.search.things):
        ways.go_on(tried, menu, step)
        tried += 1
    return ways, begins
