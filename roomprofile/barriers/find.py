"""Finding floors and barriers."""

from roomprofile.barriers.weighed import totals_before, weighed
from roomprofile.integers import check_number
from roomprofile.jobs.jobs import checked_sizes
from roomprofile.valleys.joint import Descent
from roomprofile.valleys.valleys import value_at


def find_floor(job, capacity, low):
    """Any floor of the job for the capacity and the usage `low`, or None if there is none."""
    checked_sizes(job)
    check_number(capacity)
    check_number(low)
    whole_job = weighed(job)
    if capacity < 0 or value_at(whole_job.find_profile()[2], capacity) < low:
        return None
    return _floor(whole_job, capacity, low)


def find_barrier(job, capacity):
    """Any barrier of the job for the capacity, or None if there is none."""
    checked_sizes(job)
    check_number(capacity)
    return barrier_of(job, capacity)


def barrier_of(job, capacity):
    """Any barrier of the job for a capacity of any size, or None if there is none."""
    whole_job = weighed(job)
    return _barrier(whole_job, capacity) if capacity < _peak(whole_job) else None


def _peak(job):
    return job.find_profile()[1]


def _floor(job, capacity, low):
    """A floor of a weighed job that has one."""
    # For a step this is always so, as it goes down at the capacity 0 or never.
    if job.low >= low:
        return ("lowest",)
    if job.kind == "seq":
        return _floor_in_turn(job, capacity, low)
    if job.kind in ("par", "copies"):
        return _floor_at_lows(job.kind, job, capacity)
    inner = job.parts[0]
    if inner.total >= 0:
        return ("round", _floor(inner, capacity, low))
    # If the first round could be finished, all others could, and the lowest usage would be reached.
    return ("first", _floor(inner, capacity, low), _barrier(inner, capacity))


def _floor_in_turn(job, capacity, low):
    """A floor of a sequence, of which a part cannot be finished: else the lowest usage would be reached."""
    befores = totals_before(job.parts)
    last = 0
    while capacity - befores[last] >= _peak(job.parts[last]):
        last += 1
    pairs = list(zip(befores, job.parts))[:last + 1]
    floors = tuple([_floor(part, capacity - before, low - before) for before, part in pairs])
    if last + 1 == len(job.parts):
        return ("seq", floors, None)
    return ("seq", floors, _barrier(job.parts[last], capacity - befores[last]))


def _floor_at_lows(word, job, capacity):
    """The word with the joint lows of parallel parts or copies, and with floors for them."""
    if job.kind == "copies":
        return _floor_at_low_of_copies(word, job, capacity)
    descent = Descent([part.find_profile()[2] for part in job.parts])
    descent.go_down(capacity)
    lows = descent.lows()
    floors = [_floor(part, capacity - (descent.total - low), low) for part, low in zip(job.parts, lows)]
    return (word, lows, tuple(floors))


def _floor_at_low_of_copies(word, job, capacity):
    total = value_at(job.find_profile()[2], capacity)
    # All copies are at the same low: once one of them can go down further, the others can follow it.
    low = total // job.n
    return (word, low, _floor(job.parts[0], capacity - (total - low), low))


def _barrier(job, capacity):
    """A barrier of a weighed job that has one."""
    if capacity < max(0, job.total):
        return ("net",)
    if job.kind == "seq":
        return _barrier_of_part(job, capacity)
    if job.kind == "repeat":
        inner = job.parts[0]
        return ("round", _barrier(inner, capacity - max(0, job.total - inner.total)))
    found = _high(job, capacity)
    if found is not None:
        return found
    # The lowest usage cannot be reached from the begin, or else, in the mirror, from the end.
    if capacity < job.find_profile()[2][-1][0]:
        return _floor_at_lows("front", job, capacity)
    return ("mirror", _floor_at_lows("front", job.mirror_image(), capacity - job.total))


def _barrier_of_part(job, capacity):
    for index, before in enumerate(totals_before(job.parts)):
        if capacity - before < _peak(job.parts[index]):
            return ("part", index, _barrier(job.parts[index], capacity - before))
    return None


def _high(job, capacity):
    """A barrier of parallel jobs of which one does not fit even while the others are lowest, or None."""
    for index, part in enumerate(job.parts):
        left = capacity - (job.low - part.low)
        if left < _peak(part):
            inner = _barrier(part, left)
            return ("high", index, inner) if job.kind == "par" else ("high", inner)
    return None
