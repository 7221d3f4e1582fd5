"""Slow answers about books: each book up to a length is performed, and shapes are not used."""

from gangbooks.hours import change
from gangbooks.settle import settle

TICK = ("tick",)


def owed_and_waiting(state, group):
    """Tell whether a loose job of the top group waits that has room in its floor, by counting."""
    cluster = state.cluster
    top = [one.name for one in cluster.groups].index(group)
    used = [0] * len(cluster.resources)
    waiting = []
    for job in state:
        template = cluster.templates[job.template]
        if not job.firm and cluster.groups[template.group].path[0] == top:
            total = [template.stages[job.stage].tasks * number for number in template.stages[job.stage].amounts]
            if job.place is None:
                waiting.append(total)
            else:
                used = [one + two for one, two in zip(used, total)]
    return any(all(one + two <= most for one, two, most in zip(used, total, cluster.groups[top].floor)) for total in waiting)


def is_broken(words, ticks, before, after, deeds):
    """Tell whether the promise is broken by what led from one state to another; before is None at the beginning."""
    if words[0] == "floor":
        return owed_and_waiting(after, words[1])
    name = words[1]
    if words[0] == "begins":
        return ticks == 0 and name in after and after[name].began is None
    if words[0] == "ends":
        return ticks == 0 and name in after
    if words[0] == "stays":
        return before is not None and name in after and after[name].evicted > before[name].evicted
    return ("broken", name) in deeds


def can_be_broken(words, state):
    """Tell whether the promise can still be broken in this state."""
    if words[0] == "floor":
        return True
    return words[1] in state and (words[0] != "begins" or state[words[1]].began is None)


def broken_at(start, menu, words, step, longest):
    """The least length of a book that breaks the promise, up to the longest one, or None."""
    ticks = words[2] if len(words) > 2 else -1
    if is_broken(words, ticks, None, start, []):
        return 0
    layer = {(start.text(), ticks): (start, ticks)} if can_be_broken(words, start) else {}
    for length in range(1, longest + 1):
        behind = {}
        for now, left in layer.values():
            for event in menu(now):
                after, deeds = step(now, event)
                rest = left - 1 if event == TICK and left > 0 else left
                if is_broken(words, rest, now, after, deeds):
                    return length
                if can_be_broken(words, after):
                    behind[after.text(), rest] = (after, rest)
        layer = behind
    return None


def longest_waits(start, menu, template, step, longest):
    """The greatest number of hours that a job of the template waits in books of each length up to the longest one."""
    layer = {(start.text(), ()): (start, {})}
    most = [0]
    for _ in range(longest):
        behind = {}
        for now, waits in layer.values():
            for event in menu(now):
                after, _ = step(now, event)
                told = {}
                for name, hours in waits.items():
                    if event != ("drop", name):
                        hours = hours + 1 if event == TICK else hours
                        most.append(hours)
                        if after[name].began is None:
                            told[name] = hours
                if event[0] == "come" and event[2] == template and after[event[1]].began is None:
                    told[event[1]] = 0
                behind[after.text(), tuple(sorted(told.items()))] = (after, told)
        layer = behind
        most.append(max(most))
    return max(most)


WORDS = ("out", "lost", "start", "stage", "end", "drop", "broken")


def same_words(deeds, others):
    """Tell whether each job gets the same words of deeds."""
    names = {deed[1] for deed in [*deeds, *others]}
    return all([deed[0] for deed in deeds if deed[1] == name and deed[0] in WORDS]
               == [deed[0] for deed in others if deed[1] == name and deed[0] in WORDS] for name in names)


def both(menu, left, right):
    """The events that the menu lets in both states, with one name for the comings."""
    number = 1
    while f"x{number}" in left or f"x{number}" in right:
        number += 1
    found = []
    for event in menu(left):
        if event[0] == "come":
            if len(right) < menu.many:
                found.append(("come", f"x{number}", event[2]))
        elif event in menu(right):
            found.append(event)
    return found


def parted_at(relation, left, right, menu, step, longest):
    """The least length of a book that shows that a relation does not hold, up to the longest one, or None."""
    def parted(left, right):
        if relation == "alike":
            return not same_words(left[1], right[1])
        return any(job.began is not None and job.name in right[0] and right[0][job.name].began is None for job in left[0])

    if parted(left, right):
        return 0
    layer = {(left[0].text(), right[0].text()): (left[0], right[0])}
    for length in range(1, longest + 1):
        behind = {}
        for one, other in layer.values():
            for event in both(menu, one, other):
                pair = step(one, event), step(other, event)
                if parted(*pair):
                    return length
                behind[pair[0][0].text(), pair[1][0].text()] = (pair[0][0], pair[1][0])
        layer = behind
    return None


def two_beginnings(relation, state, other, step):
    """The beginnings of the two runs."""
    if relation == "harmless":
        return (state, []), step(state, other)
    first = settle(state)
    return (first.after, list(first.deeds)), change(state, other)
