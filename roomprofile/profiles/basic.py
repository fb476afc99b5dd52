"""The profiles of a step, and of jobs in sequence."""

from roomprofile.integers import check_number
from roomprofile.profiles.forms import check_profiles, checked_profile
from roomprofile.valleys.valleys import least_usages


def step_profile(value):
    """The profile of a step."""
    check_number(value)
    return of_step(value)


def seq_profiles(profiles):
    """The profile of jobs with these profiles in sequence."""
    check_profiles(profiles)
    return checked_profile(in_sequence(profiles))


def of_step(step):
    """The profile of a step of any size."""
    low = min(0, step)
    return (step, max(0, step), ((0, low),), ((step, low),))


def in_sequence(profiles):
    """The profile of jobs with these profiles in sequence, with valleys of any length."""
    total, peak, starts = _from_begin(profiles)
    ends = _from_end(profiles, total)
    return (total, peak, least_usages(starts), least_usages(ends))


def _from_begin(profiles):
    """The net, the peak, and the usages that each job offers, with the capacities to reach them."""
    before = 0
    peak = 0
    offers = [(0, 0)]
    for net, part_peak, start, _ in profiles:
        # Whoever is inside this job has been through all jobs before it, and so at their peak.
        offers.extend([(max(peak, before + capacity), before + low) for capacity, low in start])
        peak = max(peak, before + part_peak)
        before += net
    return (before, peak, offers)


def _from_end(profiles, total):
    """The usages that each job offers, with the capacities to go on from them to the end."""
    before = total
    peak = total
    offers = [(total, total)]
    for net, part_peak, _, end in reversed(profiles):
        before -= net
        offers.extend([(max(peak, before + capacity), before + low) for capacity, low in end])
        peak = max(peak, before + part_peak)
    return offers
