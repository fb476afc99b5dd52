"""Addresses of the steps of a job, and the order of the steps."""

from roomprofile.errors import InvalidAddress, TooMany
from roomprofile.integers import is_integer
from roomprofile.jobs.jobs import checked_sizes

MAX_SMALL = 400


def is_address(job, value):
    """Whether the value is the address of a step of the job."""
    checked_sizes(job)
    return find_step(job, value) is not None


def step_value(job, address):
    """The step at the address."""
    checked_sizes(job)
    return _checked_step(job, address)


def precedes(job, first, second):
    """Whether the step at the first address precedes the step at the second one."""
    checked_sizes(job)
    _checked_step(job, first)
    _checked_step(job, second)
    inner = job
    for before, after in zip(first, second):
        if before != after:
            return inner[0] in ("seq", "repeat") and before < after
        inner = _part_at(inner, before)
    return False


def all_addresses(job):
    """All addresses of a small job in ascending order."""
    check_small(job)
    return tuple([row[0] for row in step_rows(job)])


def check_small(job):
    """Raises InvalidJob for a value that is not a job, and TooMany for a job that is not small."""
    if checked_sizes(job)[1] > MAX_SMALL:
        raise TooMany(MAX_SMALL)


def is_index_tuple(value):
    """Whether the value is a tuple of integers, as each address is."""
    return isinstance(value, tuple) and all([is_integer(index) for index in value])


def find_step(job, value):
    """The step of the job at the address, or None if the value is not an address of the job."""
    if not is_index_tuple(value):
        return None
    inner = job
    for index in value:
        inner = _part_at(inner, index)
        if inner is None:
            return None
    return inner if is_integer(inner) else None


def _checked_step(job, address):
    step = find_step(job, address)
    if step is None:
        raise InvalidAddress("this is not an address of the job")
    return step


def _part_at(job, index):
    """The part, round or copy with this index, or None if there is none."""
    if is_integer(job) or index < 0:
        return None
    if job[0] in ("seq", "par"):
        return job[1][index] if index < len(job[1]) else None
    return job[2] if index < job[1] else None


def step_rows(job):
    """The rows (address, step, gates) of all steps of a small job, by ascending addresses.

    A gate (level, least) of a step belongs to a "seq" or "repeat" around it. It says: of the steps
    that share the first `level` indices of its address, the first `least` ones precede it.
    """
    if is_integer(job):
        return [((), job, ())]
    rows = []
    for index, inner_rows in _rows_by_index(job):
        gates = ((0, len(rows)),) if job[0] in ("seq", "repeat") else ()
        rows.extend([_row_within(index, gates, row) for row in inner_rows])
    return rows


def _rows_by_index(job):
    if job[0] in ("seq", "par"):
        return [(index, step_rows(part)) for index, part in enumerate(job[1])]
    # What stands in no round may have 10 ** 30 steps, and there may be 10 ** 30 rounds without a step.
    inner_rows = step_rows(job[2]) if job[1] > 0 else []
    return [(index, inner_rows) for index in range(job[1] if inner_rows else 0)]


def _row_within(index, outer_gates, row):
    address, step, gates = row
    inner_gates = [(level + 1, least) for level, least in gates]
    return ((index,) + address, step, outer_gates + tuple(inner_gates))
