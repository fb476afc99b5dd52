"""Choices: the steps that a job can begin with, and the jobs that are left after them."""

from roomprofile.errors import InvalidChoice, TooMany
from roomprofile.integers import check_within, is_integer
from roomprofile.jobs.addresses import is_index_tuple
from roomprofile.jobs.jobs import MAX_NODES, checked_sizes, is_job, tidied
from roomprofile.plans.plans import checked_run
from roomprofile.progress.rests import remainder, rest_after


def choices(job):
    """The choices of the job in ascending order."""
    checked_sizes(job)
    return tuple(_choices(job))


def is_choice(job, value):
    """Whether the value is a choice of the job."""
    checked_sizes(job)
    return _is_choice(job, value)


def do_step(job, choice):
    """The tidy remainder of the job after the choice."""
    checked_sizes(job)
    if not _is_choice(job, choice):
        raise InvalidChoice("this is not a choice of the job")
    return _tidy_rest(remainder(job, choice))


def remaining_after(job, plan, count):
    """The tidy rest of the job after the first `count` steps of the plan."""
    checked_sizes(job)
    run = checked_run(job, plan)
    check_within(count, 0, run.steps())
    return _tidy_rest(rest_after(job, run, count))


def _choices(job):
    """The choices as a list; it is empty exactly if the job is."""
    if is_integer(job):
        return [()]
    if job[0] in ("repeat", "copies"):
        inner = _choices(job[2]) if job[1] > 0 else []
        return [(0,) + choice for choice in inner]
    found = []
    for index, part in enumerate(job[1]):
        if found and job[0] == "seq":
            break
        found.extend([(index,) + choice for choice in _choices(part)])
    return found


def _is_choice(job, value):
    # True and False equal indices, but are none.
    return is_index_tuple(value) and value in _choices(job)


def _tidy_rest(rest):
    tidy_rest = tidied(rest)
    if not is_job(tidy_rest):
        raise TooMany(MAX_NODES)
    return tidy_rest
