"""The profile of a job, and the shortest steps with a given profile."""

from roomprofile.integers import check_number
from roomprofile.jobs.jobs import checked_sizes
from roomprofile.profiles.composed import job_profile
from roomprofile.profiles.forms import check_profile, has_profile_form
from roomprofile.valleys.valleys import value_at


def profile(job):
    """The profile of the job."""
    checked_sizes(job)
    return job_profile(job)


def is_profile(value):
    """Whether the value is a profile."""
    return has_profile_form(value)


def normal_form(profile):
    """The shortest tuple of steps that, done one after another, have this profile."""
    check_profile(profile)
    usages = _turning_usages(profile)
    changes = [after - before for before, after in zip(usages, usages[1:])]
    return tuple([change for change in changes if change != 0])


def start_low(job, capacity):
    """The least usage that a run within the capacity reaches, or None below the capacity 0."""
    checked_sizes(job)
    check_number(capacity)
    return value_at(job_profile(job)[2], capacity)


def end_low(job, capacity):
    """The least usage from which the job can be finished within the capacity, or None below its net."""
    checked_sizes(job)
    check_number(capacity)
    return value_at(job_profile(job)[3], capacity)


def _turning_usages(profile):
    """The usages at which the steps of the normal form turn, from 0 on to the net."""
    net, peak, start, end = profile
    usages = [0, start[0][1]]
    for capacity, low in start[1:]:
        usages.extend([capacity, low])
    if peak > max(start[-1][0], end[-1][0]):
        usages.extend([peak, start[-1][1]])
    for before, after in reversed(list(zip(end, end[1:]))):
        usages.extend([after[0], before[1]])
    usages.append(net)
    return usages
