"""Planned stages that are planned anew."""

from gangbooks.changes import planned
from gangbooks.packing import pack
from gangbooks.spans import Span


def span_of_plan(cluster, job, triple):
    """Return the hours of a planned stage (stage, start, counts) of a job."""
    stage, start, _ = triple
    return Span(start, start + cluster.stage_of((job.template, stage)).hours)


def plans_use(cluster, jobs, machine, span):
    """Tell whether a planned stage of the jobs has a task on the machine in an hour of the span, or at all for None."""
    return any([triple[2][machine] > 0 and (span is None or span_of_plan(cluster, job, triple) ^ span)
                for job in jobs for triple in job.plan])


def place_takes(state, jobs):
    """Return the takes of the windows and of the places of the jobs that run, without plans."""
    return state.takes_with([planned(job, ()) for job in jobs])


def plan_items(cluster, jobs):
    """Return the items of the planned stages of the jobs, each with its present place."""
    return [((job.template, triple[0]), span_of_plan(cluster, job, triple), triple[2])
            for job in jobs for triple in job.plan]


def plan_anew(state, jobs, takes, barred):
    """Pack the planned stages of the jobs beside the takes; each stage keeps its place if it can."""
    return pack(takes, plan_items(state.cluster, jobs), barred=barred, shut=state.shut)


def replanned(jobs, places):
    """Return the jobs with the places of a packing, and the deeds of those whose plans change."""
    made = []
    deeds = []
    first = 0
    for job in jobs:
        behind = places[first:first + len(job.plan)]
        first = first + len(job.plan)
        plan = tuple([(stage, start, counts) for (stage, start, _), counts in zip(job.plan, behind)])
        made.append(planned(job, plan))
        if plan != job.plan:
            deeds.append(("plan", job.name, plan))
    return made, deeds
