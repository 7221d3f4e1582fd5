"""Whose turn it is among jobs."""

from gangbooks.state import hours_left
from gangbooks.usage import fits_floor, level, path_of_gang, used_with


def gang_of(job):
    """Return the gang of a job."""
    return job.template, job.stage


def most_ranked(cluster, jobs, indexes):
    """Return the first of the indexes whose job has the greatest rank."""
    return max(indexes, key=lambda at: cluster.templates[jobs[at].template].rank)


def least_level(cluster, used, groups):
    """Return the first of the groups that has the least level."""
    best = groups[0]
    for group in groups:
        if (level(cluster, group, used) - level(cluster, best, used)).sign < 0:
            best = group
    return best


def narrowed(cluster, used, jobs, indexes, depth):
    """Return the indexes that stay by the groups of their jobs' paths at this depth, and the chosen group."""
    groups = {at: path_of_gang(cluster, gang_of(jobs[at]))[depth] for at in indexes}
    within = [at for at in indexes if fits_floor(cluster, used, gang_of(jobs[at]), groups[at])]
    left = within if within else indexes
    chosen = least_level(cluster, used, sorted({groups[at] for at in left}))
    return [at for at in left if groups[at] == chosen], chosen


def pick_by_share(cluster, used, jobs):
    """Return the index of the job that is picked by the floors and levels of the groups."""
    left, chosen = narrowed(cluster, used, jobs, list(range(len(jobs))), 0)
    depth = 0
    while not cluster.groups[chosen].leaf:
        depth += 1
        left, chosen = narrowed(cluster, used, jobs, left, depth)
    return most_ranked(cluster, jobs, left)


def pick(cluster, policy, used, jobs):
    """Return the index of the job, of one or more with the older first, whose turn it is."""
    if policy.order == "age":
        return 0
    if policy.order == "rank":
        return most_ranked(cluster, jobs, list(range(len(jobs))))
    if policy.order == "short":
        return min(list(range(len(jobs))), key=lambda at: hours_left(cluster, jobs[at]))
    return pick_by_share(cluster, used, jobs)


def precedence(cluster, policy, used, jobs):
    """Return the indexes of the jobs in the order in which they are picked one after the other."""
    left = list(range(len(jobs)))
    now = used
    order = []
    while left:
        at = left.pop(pick(cluster, policy, now, [jobs[k] for k in left]))
        order.append(at)
        now = used_with(cluster, now, gang_of(jobs[at]))
    return order
