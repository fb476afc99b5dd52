"""The profiles of many rounds, and of many copies, of a job."""

from roomprofile.integers import check_within
from roomprofile.jobs.jobs import MAX_COUNT
from roomprofile.profiles.forms import NOTHING, check_profile, checked_profile
from roomprofile.valleys.valleys import least_usages, moved


def repeat_profile(count, profile):
    """The profile of so many rounds of a job with this profile."""
    check_within(count, 0, MAX_COUNT)
    check_profile(profile)
    return checked_profile(in_rounds(count, profile))


def copies_profile(count, profile):
    """The profile of so many copies of a job with this profile."""
    check_within(count, 0, MAX_COUNT)
    check_profile(profile)
    return checked_profile(in_copies(count, profile))


def in_rounds(count, profile):
    """The profile of so many rounds of a job, with valleys of any length."""
    if count == 0:
        return NOTHING
    net, peak, start, end = profile
    more = (count - 1) * net
    # The lowest usage is in the first or in the last round. If the rounds go down, it can be reached
    # through the peak of the first one; if they go up, it can be left through the peak of the last one.
    bottom = (peak + max(0, more), start[-1][1] + min(0, more))
    ends = moved(end, more, more)
    return (net + more, bottom[0], least_usages((*start, bottom)), least_usages((*ends, bottom)))


def in_copies(count, profile):
    """The profile of so many copies of a job, with valleys of any length."""
    if count == 0:
        return NOTHING
    net, peak, start, end = profile
    total = count * net
    starts = _joint_copies(count, start)
    ends = moved(_joint_copies(count, moved(end, -net, -net)), total, total)
    highest = peak + (count - 1) * start[-1][1]
    return (total, max(highest, starts[-1][0], ends[-1][0]), starts, ends)


def _joint_copies(count, start):
    """The joint valleys of so many equal start valleys.

    When one copy can go down to its next low, the others can follow it, as each lower usage helps them.
    """
    capacity = 0
    pairs = [(0, count * start[0][1])]
    for before, after in zip(start, start[1:]):
        capacity = max(capacity, after[0] + (count - 1) * before[1])
        pairs.append((capacity, count * after[1]))
    return least_usages(pairs)
