"""How many copies, or rounds, of a job fit a capacity."""

from roomprofile.integers import check_number, check_within
from roomprofile.jobs.jobs import MAX_COUNT, checked_sizes
from roomprofile.profiles.composed import job_profile


def copies_that_fit(job, capacity, *, most=MAX_COUNT):
    """The least and the greatest number of copies that fits, of at most `most`, or None if none does."""
    least = 1
    greatest = _greatest_count(job, capacity, most)
    for height, slope in _heights(job_profile(job)):
        room = capacity - height
        # With n copies the height is reached plus (n - 1) times the slope.
        if slope < 0:
            least = max(least, 1 - room // -slope)
        elif slope > 0:
            greatest = min(greatest, 1 + room // slope)
        elif room < 0:
            return None
    return (least, greatest) if least <= greatest else None


def rounds_that_fit(job, capacity, *, most=MAX_COUNT):
    """The pair of 1 and the greatest number of rounds that fits, of at most `most`, or None if none does."""
    greatest = _greatest_count(job, capacity, most)
    net, peak = job_profile(job)[:2]
    if capacity < peak:
        return None
    return (1, min(greatest, 1 + (capacity - peak) // net) if net > 0 else greatest)


def _greatest_count(job, capacity, most):
    """The greatest count of the job that is at most `most`. Raises the errors of the arguments."""
    steps = checked_sizes(job)[1]
    check_number(capacity)
    check_within(most, 1, MAX_COUNT)
    return min(most, MAX_COUNT // max(1, steps))


def _heights(profile):
    """Rows (height, slope): n copies have the least peak height + (n - 1) * slope of the row where this is greatest.

    One copy goes to a capacity while all others are at the low before it: on their way down from the
    begin, on their way up to the end, or at the lowest usage.
    """
    net, peak, start, end = profile
    rows = [(0, 0), (net, net), (peak, start[-1][1])]
    for pairs in (start, end):
        rows.extend([(after[0], before[1]) for before, after in zip(pairs, pairs[1:])])
    return rows
