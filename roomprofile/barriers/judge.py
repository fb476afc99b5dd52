"""Whether a value is a floor or a barrier of a job, whoever made it."""

from roomprofile.barriers.weighed import totals_before, weighed
from roomprofile.integers import check_number, is_integer, is_within
from roomprofile.jobs.jobs import checked_sizes
from roomprofile.tuples import begins_with


def is_floor(job, capacity, low, value):
    """Whether the value is a floor of the job for the capacity and the usage `low`."""
    checked_sizes(job)
    check_number(capacity)
    check_number(low)
    return judge_floor(weighed(job), capacity, low, value)


def is_barrier(job, capacity, value):
    """Whether the value is a barrier of the job for the capacity."""
    checked_sizes(job)
    check_number(capacity)
    return judge_barrier(weighed(job), capacity, value)


def judge_floor(job, capacity, low, value):
    """Whether the value is a floor of the weighed job, for integers of any size."""
    if capacity < 0 or low > 0:
        return False
    if begins_with(value, "lowest", 1):
        return job.low >= low
    if job.kind == "step":
        return begins_with(value, "step", 1) and (job.total > capacity or job.total >= low)
    if job.kind == "seq":
        return _judge_floor_of_seq(job, capacity, low, value)
    if job.kind == "par":
        return _judge_floor_of_par(job, capacity, low, value)
    if job.n == 0:
        return False
    if job.kind == "repeat":
        return _judge_floor_of_rounds(job, capacity, low, value)
    return _judge_floor_of_copies(job, capacity, low, value)


def judge_barrier(job, capacity, value):
    """Whether the value is a barrier of the weighed job, for integers of any size."""
    if begins_with(value, "net", 1):
        return capacity < max(0, job.total)
    if begins_with(value, "mirror", 2):
        inner = value[1]
        return not begins_with(inner, "mirror", 2) and judge_barrier(job.mirror_image(), capacity - job.total, inner)
    if job.kind == "seq":
        return _judge_barrier_of_seq(job, capacity, value)
    if job.kind == "par":
        return _judge_barrier_of_par(job, capacity, value)
    if job.kind == "step" or job.n == 0:
        return False
    if job.kind == "repeat":
        return _judge_barrier_of_rounds(job, capacity, value)
    return _judge_barrier_of_copies(job, capacity, value)


def _judge_floor_of_seq(job, capacity, low, value):
    if not begins_with(value, "seq", 3):
        return False
    _, floors, barrier = value
    if not isinstance(floors, tuple) or not 1 <= len(floors) <= len(job.parts):
        return False
    befores = totals_before(job.parts)
    for before, part, floor in zip(befores, job.parts, floors):
        if not judge_floor(part, capacity - before, low - before, floor):
            return False
    if len(floors) == len(job.parts):
        return barrier is None
    last = len(floors) - 1
    return judge_barrier(job.parts[last], capacity - befores[last], barrier)


def _judge_floor_of_par(job, capacity, low, value):
    if not begins_with(value, "par", 3) or not _are_lows(job.parts, value[1]) or sum(value[1]) < low:
        return False
    return _judge_floors_for_lows(job.parts, capacity, value[1], value[2])


def _judge_floor_of_rounds(job, capacity, low, value):
    inner = job.parts[0]
    if begins_with(value, "round", 2):
        # If the rounds go down, the last one decides, else the first one.
        before = min(0, job.total - inner.total)
        return judge_floor(inner, capacity - before, low - before, value[1])
    if not begins_with(value, "first", 3):
        return False
    return judge_floor(inner, capacity, low, value[1]) and judge_barrier(inner, capacity, value[2])


def _judge_floor_of_copies(job, capacity, low, value):
    if not begins_with(value, "copies", 3) or not is_integer(value[1]) or job.n * value[1] < low:
        return False
    return _judge_floor_of_each_copy(job, capacity, value[1], value[2])


def _judge_barrier_of_seq(job, capacity, value):
    if not begins_with(value, "part", 3) or not _is_index(value[1], job.parts):
        return False
    _, index, barrier = value
    return judge_barrier(job.parts[index], capacity - totals_before(job.parts)[index], barrier)


def _judge_barrier_of_par(job, capacity, value):
    if begins_with(value, "high", 3) and _is_index(value[1], job.parts):
        part = job.parts[value[1]]
        return judge_barrier(part, capacity - (job.low - part.low), value[2])
    if not begins_with(value, "front", 3) or capacity < 0:
        return False
    if not _are_lows(job.parts, value[1]) or sum(value[1]) <= job.low:
        return False
    return _judge_floors_for_lows(job.parts, capacity, value[1], value[2])


def _judge_barrier_of_rounds(job, capacity, value):
    inner = job.parts[0]
    # If the rounds go up, the last one decides, else the first one.
    before = max(0, job.total - inner.total)
    return begins_with(value, "round", 2) and judge_barrier(inner, capacity - before, value[1])


def _judge_barrier_of_copies(job, capacity, value):
    inner = job.parts[0]
    if begins_with(value, "high", 2):
        return judge_barrier(inner, capacity - (job.low - inner.low), value[1])
    if not begins_with(value, "front", 3) or capacity < 0:
        return False
    if not is_integer(value[1]) or value[1] <= inner.low:
        return False
    return _judge_floor_of_each_copy(job, capacity, value[1], value[2])


def _is_index(value, parts):
    return is_within(value, 0, len(parts) - 1)


def _are_lows(parts, lows):
    if not isinstance(lows, tuple) or len(lows) != len(parts):
        return False
    return all([is_integer(part_low) and part_low <= 0 for part_low in lows])


def _judge_floors_for_lows(parts, capacity, lows, floors):
    """Whether there is a floor for the low of each part, while all other parts are at their lows."""
    if not isinstance(floors, tuple) or len(floors) != len(parts):
        return False
    total = sum(lows)
    for part, part_low, floor in zip(parts, lows, floors):
        if not judge_floor(part, capacity - (total - part_low), part_low, floor):
            return False
    return True


def _judge_floor_of_each_copy(job, capacity, inner_low, floor):
    """Whether this is a floor for the low of a copy, while all other copies are at this low."""
    return judge_floor(job.parts[0], capacity - (job.n - 1) * inner_low, inner_low, floor)
