"""Random clusters, events and books for tests of the whole program."""

from gangbooks.cluster import Cluster
from gangbooks.errors import GangError
from gangbooks.failing import failing_step, reopen, shut
from gangbooks.moving import drain
from gangbooks.policy import all_policies
from gangbooks.reserve import reserve
from gangbooks.state import State
from gangbooks.windows import cancel, close

POLICIES = list(all_policies())
WISHES = ("near", "apart", "needs:x", "bars:x", "likes:x", "likes:y", "never:a", "never:b")
OTHERS = {"reserve": reserve, "close": close, "cancel": cancel, "shut": shut, "reopen": reopen, "drain": drain}


def random_cluster(dice, wide=False):
    """A small cluster whose machines are easily full."""
    many = dice.randrange(1, 3)
    machines = [(f"m{at}", dice.choice(["y", "z"]), dice.choice([(), (), ("x",), ("x", "y")]),
                 tuple(dice.randrange(2, 7) for _ in range(many))) for at in range(dice.randrange(1, 5 if wide else 4))]
    left = [sum(row[3][k] for row in machines) for k in range(many)]

    def floor(room):
        return tuple(dice.randrange(min(number, 6) + 1) for number in room)

    def limit(least):
        return dice.choice([None, None, None, None, tuple(number + dice.randrange(8) for number in least)])

    top = floor(left)
    below = floor(top)
    rest = floor([number - one for number, one in zip(left, top)])
    groups = [("top", "", dice.randrange(1, 4), top, limit(top)), ("one", "top", dice.randrange(1, 4), below, limit(below)),
              ("two", "top", 1, (0,) * many, limit((0,) * many)), ("three", "", dice.randrange(1, 4), rest, limit(rest))]

    def amounts():
        return tuple(dice.choice([(1, 0), (0, 2), (1, 1), (2, 1), (3, 0)])[:many]) if many == 2 else (dice.randrange(1, 4),)

    templates = []
    for name in "abcd"[:dice.randrange(2, 5)]:
        stages = tuple((dice.randrange(1, 4), amounts(), dice.randrange(1, 5)) for _ in range(dice.choice([1, 1, 2, 3])))
        wishes = tuple(dice.sample(WISHES, dice.choice([0, 0, 0, 1, 1, 2])))
        templates.append((name, dice.choice(["one", "two", "three"]), dice.randrange(4), dice.choice([0, 0, 1, 2]), stages, wishes))
    return Cluster(["core", "mem"][:many], machines, groups, templates)


def perform(state, event):
    """Perform any event of point 58."""
    if event[0] in OTHERS:
        return OTHERS[event[0]](state, *event[1:])
    return failing_step(state, event)


def random_event(dice, state, words):
    """An event, mostly one that is possible."""
    word = dice.choice(words)
    names = [job.name for job in state] or ["none"]
    runs = [job.name for job in state if job.place] or names
    machine = dice.choice(state.cluster.machines).name
    template = dice.choice(state.cluster.templates).name
    new = f"j{state.hour}x{dice.randrange(1000)}"
    if word == "cancel":
        window = dice.choice(state.windows or ((0, 0, 1),))
        return (word, state.cluster.machines[window[0]].name, window[2])
    return {
        "come": ("come", new, template), "drop": ("drop", dice.choice(names)), "early": ("early", dice.choice(runs)),
        "tick": ("tick",), "policy": ("policy", *dice.choice(POLICIES)), "fail": ("fail", machine), "repair": ("repair", machine),
        "reserve": ("reserve", new, template, state.hour + dice.randrange(6)),
        "close": ("close", machine, state.hour + dice.randrange(5), dice.randrange(1, 4)),
        "shut": ("shut", machine), "reopen": ("reopen", machine), "drain": ("drain", machine)}[word]


CALM = ("come",) * 7 + ("tick",) * 5 + ("reserve",) * 5 + ("drop", "early", "policy", "close", "close", "cancel", "shut", "reopen", "drain")
ROUGH = CALM + ("fail",) * 3 + ("repair",) * 3


def random_book(dice, many, words, made=None, wide=False):
    """Yield (state, event, new state, deeds) for the events of a random book; those that are refused are left out."""
    state = State.empty(made or random_cluster(dice, wide), dice.choice(POLICIES))
    for _ in range(many):
        event = random_event(dice, state, words)
        try:
            after, deeds = perform(state, event)
        except GangError:
            continue
        yield state, event, after, deeds
        state = after


def last_state(dice, many, words, wide=False):
    """The state behind a random book that has at least one event."""
    states = []
    while not states:
        states = [after for _, _, after, _ in random_book(dice, many, words, wide=wide)]
    return states[-1]
