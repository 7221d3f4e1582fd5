"""What groups use, and how that compares with their floors and limits."""

from gangbooks.shares import Share, greater


def path_of_gang(cluster, gang):
    """Return the path of the group of a gang."""
    return cluster.groups[cluster.templates[gang[0]].group].path


def unused(cluster):
    """Return the list of used amounts of all groups if nothing is used."""
    return [0 * cluster.total for _ in cluster.groups]


def used_with(cluster, used, gang):
    """Return the used amounts of all groups with one more gang."""
    path = path_of_gang(cluster, gang)
    total = cluster.stage_of(gang).total
    return [amounts + total if at in path else amounts for at, amounts in enumerate(used)]


def used_by(cluster, gangs):
    """Return for each group the sum of the totals of the gangs of this group and of those below it."""
    used = unused(cluster)
    for gang in gangs:
        used = used_with(cluster, used, gang)
    return used


def level(cluster, group, used):
    """Return the greatest part of a resource that the group uses, divided by its weight."""
    parts = [Share(number, most) for number, most in zip(used[group], cluster.total) if most > 0]
    most_used = parts[0]
    for part in parts:
        most_used = greater(most_used, part)
    return most_used.over(cluster.groups[group].weight)


def fits_floor(cluster, used, gang, group):
    """Tell whether the used amounts of the group are within its floor with one more gang."""
    return used[group] + cluster.stage_of(gang).total in cluster.groups[group].floor


def owed(cluster, used, gang):
    """Tell whether the used amounts of the gang's top group are within its floor with this gang."""
    return fits_floor(cluster, used, gang, path_of_gang(cluster, gang)[0])


def stopped(cluster, used, gang):
    """Return the first group, from the leaf up, whose limit stops the gang, and the resource, or None."""
    total = cluster.stage_of(gang).total
    for group in reversed(list(path_of_gang(cluster, gang))):
        limit = cluster.groups[group].limit
        if limit is not None and used[group] + total not in limit:
            above = [at for at, (number, most) in enumerate(zip(used[group] + total, limit)) if number > most]
            return group, above[0]
    return None
