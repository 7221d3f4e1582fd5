"""Clusters: resources, machines, groups and templates."""

from gangbooks.amounts import Amounts
from gangbooks.errors import Unknown
from gangbooks.rowchecks import check_rows, leaf_names, names_after, path_of


def index_of(rows, name):
    """Return the index of the object with this name."""
    for at, row in enumerate(rows):
        if row.name == name:
            return at
    raise Unknown(name)


def foes_of(templates, at):
    """Return the indexes of the template rows that this one names after never, or that name it."""
    name = templates[at][0]
    named = names_after("never", templates[at][5])
    return tuple([k for k, row in enumerate(templates) if row[0] in named or name in names_after("never", row[5])])


class Machine:
    """A machine with its zone, its labels and its amounts."""

    def __init__(self, name, zone, labels, numbers):
        self.name = name
        self.zone = zone
        self.labels = labels
        self.amounts = Amounts(*numbers)


class Group:
    """A group with its floor and its limit; its path ends in its own index."""

    def __init__(self, row, path, leaf):
        name, _, weight, floor, limit = row
        self.name = name
        self.parent = path[-2] if len(path) > 1 else None
        self.weight = weight
        self.floor = Amounts(*floor)
        self.limit = None if limit is None else Amounts(*limit)
        self.path = path
        self.leaf = leaf


class Stage:
    """A stage: so many equal tasks, each with these amounts for these hours."""

    def __init__(self, tasks, numbers, hours):
        self.tasks = tasks
        self.amounts = Amounts(*numbers)
        self.hours = hours
        self.total = tasks * self.amounts


class Template:
    """A template of jobs, with its wishes sorted by their words."""

    def __init__(self, row, group, foes):
        name, _, rank, every, stages, wishes = row
        self.name = name
        self.group = group
        self.rank = rank
        self.every = every
        self.stages = tuple([Stage(*stage) for stage in stages])
        self.wishes = wishes
        self.needs = tuple(names_after("needs", wishes))
        self.bars = tuple(names_after("bars", wishes))
        self.likes = tuple(names_after("likes", wishes))
        self.foes = foes
        self.near = "near" in wishes
        self.apart = "apart" in wishes


class Cluster:
    """The machines that jobs run on, the groups they belong to and the templates they are made from."""

    def __init__(self, resources, machines, groups, templates):
        check_rows(resources, machines, groups, templates)
        self.parts = (tuple(resources), tuple(machines), tuple(groups), tuple(templates))
        self.resources = tuple(resources)
        self.machines = tuple([Machine(*row) for row in machines])
        leaves = leaf_names(groups)
        self.groups = tuple([Group(row, path_of(groups, at), row[0] in leaves) for at, row in enumerate(groups)])
        self.templates = tuple([
            Template(row, index_of(self.groups, row[1]), foes_of(templates, at))
            for at, row in enumerate(templates)])
        total = 0 * self.machines[0].amounts
        for machine in self.machines:
            total = total + machine.amounts
        self.total = total

    def machine_index(self, name):
        """Return the index of the machine with this name."""
        return index_of(self.machines, name)

    def group_index(self, name):
        """Return the index of the group with this name."""
        return index_of(self.groups, name)

    def template_index(self, name):
        """Return the index of the template with this name."""
        return index_of(self.templates, name)

    def entries(self):
        """Return the four lists that the cluster was made from."""
        return tuple([list(part) for part in self.parts])

    def stage_of(self, gang):
        """Return the stage of a gang, a pair of a template and a stage."""
        template, stage = gang
        return self.templates[template].stages[stage]

    def __eq__(self, other):
        return isinstance(other, Cluster) and self.parts == other.parts
