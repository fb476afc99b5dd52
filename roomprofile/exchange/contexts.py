"""Contexts: what is built like a job around one hole, in whose place a job can be put."""

from roomprofile.errors import InvalidContext, InvalidJob
from roomprofile.integers import is_integer, is_short_integer
from roomprofile.jobs.jobs import checked_sizes, is_job, sizes_of
from roomprofile.profiles.composed import job_profile

HOLE = ("hole",)


def is_context(value):
    """Whether the value is a context."""
    return sizes_of(value, _steps_of_leaf) is not None and _holes(value, False) == [False]


def plug(context, job):
    """The job in which the job stands in the place of the hole."""
    plugged = _checked_plugged(context, job)
    if not is_job(plugged):
        raise InvalidJob("what is plugged is not a job")
    return plugged


def capacity_in(context, job):
    """The least capacity of the context with the job, whatever the size of what is plugged."""
    return least_peak_in(_checked_plugged(context, job))


def least_peak_in(plugged):
    """The least peak of what is built like a job, whatever its size."""
    return job_profile(plugged)[1]


def plugged_into(context, job):
    """What results from putting the job in the place of the hole, whatever its size."""
    if context == HOLE:
        return job
    if is_integer(context) or context[0] in ("repeat", "copies"):
        return context
    return (context[0], tuple([plugged_into(part, job) for part in context[1]]))


def _checked_plugged(context, job):
    if not is_context(context):
        raise InvalidContext("this is not a context")
    checked_sizes(job)
    return plugged_into(context, job)


def _steps_of_leaf(value):
    if value == HOLE:
        return 0
    return 1 if is_short_integer(value) else None


def _holes(context, within_rounds):
    """For each hole, whether it is within a repeat or copies."""
    if context == HOLE:
        return [within_rounds]
    if is_integer(context):
        return []
    if context[0] in ("repeat", "copies"):
        return _holes(context[2], True)
    holes = []
    for part in context[1]:
        holes.extend(_holes(part, within_rounds))
    return holes
