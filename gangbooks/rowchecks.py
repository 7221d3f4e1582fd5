"""The checks of the rows that a cluster is made of."""

from gangbooks.amounts import Amounts
from gangbooks.errors import BadRow
from gangbooks.signs import is_name

MOST_RESOURCES = 3
MOST_MACHINES = 6
MOST_GROUPS = 8
MOST_TEMPLATES = 8
MOST_LABELS = 6
MOST_ABOVE = 3
MOST_STAGES = 3
MOST_WISHES = 6
GREATEST_AMOUNT = 9999
PLAIN_WISHES = ("near", "apart")
NAMING_WISHES = ("needs", "bars", "likes", "never")


def names_after(word, wishes):
    """Return the names that stand behind this word and a colon, in the order of the wishes."""
    start = word + ":"
    return [wish[len(start):] for wish in wishes if wish.startswith(start)]


def path_of(groups, at):
    """Return the indexes of the group rows from the top group down to the one at this index."""
    names = [row[0] for row in groups]
    path = [at]
    while groups[path[0]][1] != "":
        path = [names.index(groups[path[0]][1]), *path]
    return tuple(path)


def leaf_names(groups):
    """Return the names of the groups that are the parent of no group."""
    parents = [row[1] for row in groups]
    return [row[0] for row in groups if row[0] not in parents]


def check_rows(resources, machines, groups, templates):
    """Raise BadRow for the first invalid entry of the four lists of a cluster."""
    check_part("resources", resources, MOST_RESOURCES, lambda at: is_name_new(resources, at))
    check_part("machines", machines, MOST_MACHINES, lambda at: machine_fits(machines, at, len(resources)))
    most = [sum([row[3][k] for row in machines]) for k in range(len(resources))]
    total = Amounts(*most)
    check_part("groups", groups, MOST_GROUPS, lambda at: group_fits(groups, at, total))
    leaves = leaf_names(groups)
    check_part("templates", templates, MOST_TEMPLATES,
               lambda at: template_fits(templates, at, leaves, len(resources)))
    check_foes(templates)


def check_part(part, entries, most, fits):
    """Raise BadRow if there are no entries, too many, or one for whose index fits(at) is False."""
    for at in range(len(entries)):
        if at == most or not fits(at):
            raise BadRow((part, at))
    if not entries:
        raise BadRow((part, 0))


def is_name_new(names, at):
    """Tell whether the string at this index is a name that does not stand before it."""
    return is_name(names[at]) and names[at] not in names[:at]


def are_names(texts):
    """Tell whether all are names and no two of them are the same."""
    return all([is_name_new(texts, at) for at in range(len(texts))])


def amounts_fit(numbers, many):
    """Tell whether a row has so many numbers, all in their bounds."""
    return len(numbers) == many and all([0 <= number <= GREATEST_AMOUNT for number in numbers])


def some_amounts_fit(numbers, many):
    """Tell whether a row fits and is not all noughts."""
    return amounts_fit(numbers, many) and any([number > 0 for number in numbers])


def machine_fits(machines, at, many):
    """Tell whether the machine at this index is valid, if those before it are."""
    _, zone, labels, numbers = machines[at]
    if not is_name_new([row[0] for row in machines], at) or not is_name(zone):
        return False
    return len(labels) <= MOST_LABELS and are_names(labels) and some_amounts_fit(numbers, many)


def group_fits(groups, at, total):
    """Tell whether the group at this index is valid, if those before it are."""
    _, parent, weight, floor, limit = groups[at]
    names = [row[0] for row in groups]
    if not is_name_new(names, at) or not 1 <= weight <= 99:
        return False
    if parent != "" and (parent not in names[:at] or len(path_of(groups, at)) > MOST_ABOVE + 1):
        return False
    if not amounts_fit(floor, len(total)) or not limit_fits(floor, limit):
        return False
    return floors_fit(groups, at, total)


def limit_fits(floor, limit):
    """Tell whether a limit is none, or a valid row that the floor is within."""
    if limit is None:
        return True
    return amounts_fit(limit, len(floor)) and Amounts(*floor) in Amounts(*limit)


def floors_fit(groups, at, total):
    """Tell whether the floors up to this row, beside it and its own, are within what is above them."""
    parent = groups[at][1]
    above = total
    floors = 0 * total
    for name, other, _, floor, _ in groups[:at + 1]:
        if name == parent:
            above = Amounts(*floor)
        if other == parent:
            floors = floors + Amounts(*floor)
    return floors in above


def template_fits(templates, at, leaves, many):
    """Tell whether the template at this index is valid, if those before it are."""
    _, group, rank, every, stages, wishes = templates[at]
    if not is_name_new([row[0] for row in templates], at) or group not in leaves:
        return False
    if not 0 <= rank <= 99 or not 0 <= every <= 24:
        return False
    if not 1 <= len(stages) <= MOST_STAGES or not all([stage_fits(stage, many) for stage in stages]):
        return False
    if len(wishes) > MOST_WISHES or len(set(wishes)) < len(wishes):
        return False
    return all([wish_fits(wish) for wish in wishes])


def stage_fits(stage, many):
    """Tell whether a stage is valid."""
    tasks, numbers, hours = stage
    return 1 <= tasks <= 6 and some_amounts_fit(numbers, many) and 1 <= hours <= 24


def wish_fits(wish):
    """Tell whether a string is a wish; whether its template exists is not looked at."""
    word, _, name = wish.partition(":")
    return wish in PLAIN_WISHES or (word in NAMING_WISHES and is_name(name))


def check_foes(templates):
    """Raise BadRow for the first template with a wish never whose template does not exist."""
    names = [row[0] for row in templates]
    for at, row in enumerate(templates):
        if not all([name in names for name in names_after("never", row[5])]):
            raise BadRow(("templates", at))
