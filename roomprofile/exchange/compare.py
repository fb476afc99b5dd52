"""Which jobs can replace which other ones, and what tells them apart."""

from roomprofile.exchange.contexts import HOLE, is_context, least_peak_in, plugged_into
from roomprofile.integers import is_integer
from roomprofile.jobs.jobs import checked_sizes
from roomprofile.profiles.composed import job_profile
from roomprofile.profiles.forms import check_profile
from roomprofile.valleys.valleys import value_at


def is_at_most(first, second):
    """Whether the first profile is at most the second one."""
    check_profile(first)
    check_profile(second)
    return _is_at_most(first, second)


def can_replace(first, second):
    """Whether the first job can replace the second one."""
    profiles = _profiles(first, second)
    return _is_at_most(profiles[0], profiles[1])


def are_exchangeable(first, second):
    """Whether each of the two jobs can replace the other one."""
    profiles = _profiles(first, second)
    return profiles[0] == profiles[1]


def separation(first, second):
    """Any context and capacity within which only the second job fits, or None if there is none."""
    profiles = _profiles(first, second)
    return _separation(profiles[0], profiles[1])


def is_separation(first, second, value):
    """Whether the value is a separation of the two jobs, or None where there is none."""
    profiles = _profiles(first, second)
    if _is_at_most(profiles[0], profiles[1]):
        return value is None
    if not isinstance(value, tuple) or len(value) != 2:
        return False
    context, capacity = value
    if not is_integer(capacity) or not is_context(context):
        return False
    if least_peak_in(plugged_into(context, second)) > capacity:
        return False
    return least_peak_in(plugged_into(context, first)) > capacity


def _profiles(first, second):
    checked_sizes(first)
    checked_sizes(second)
    return (job_profile(first), job_profile(second))


def _is_at_most(first, second):
    if first[0] > second[0] or first[1] > second[1]:
        return False
    return _higher_pair(first[2], second[2]) is None and _higher_pair(first[3], second[3]) is None


def _higher_pair(first, second):
    """The first pair of the second valleys at whose capacity the first valleys are higher, or None.

    The values of the first valleys only go down, so they need not be compared between the pairs.
    """
    for capacity, low in second:
        if value_at(first, capacity) > low:
            return (capacity, low)
    return None


def _separation(first, second):
    """Any context and capacity where what has the first profile does not fit, and the second does."""
    net, peak, start, end = second
    if first[0] > net:
        # The step goes up from the second net to just the second peak.
        return (("seq", (HOLE, peak - net)), peak)
    if first[1] > peak:
        return (HOLE, peak)
    pair = _higher_pair(first[2], start)
    if pair is not None:
        # Only who has come down to this low can let the step through. Then nothing else matters any more.
        climb = pair[0] - pair[1]
        return (("par", (HOLE, ("seq", (climb, -climb - peak)))), pair[0])
    pair = _higher_pair(first[3], end)
    if pair is not None:
        # Only who is at this low can let the first step through, and then has just what it needs to the end.
        return (("par", (HOLE, ("seq", (peak - pair[1], pair[1] - pair[0])))), peak)
    return None
