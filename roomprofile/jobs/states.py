"""States of a small job: sets of done steps that contain all that precedes them."""

from roomprofile.errors import InvalidAddress, InvalidState
from roomprofile.integers import check_number
from roomprofile.jobs.addresses import check_small, find_step, step_rows
from roomprofile.jobs.done import DoneSteps


def is_state(job, value):
    """Whether the value is a state of the job."""
    check_small(job)
    return _find_state(job, value) is not None


def usage(job, state):
    """The sum of the steps of the state."""
    check_small(job)
    return checked_state(job, state).usages[-1]


def available(job, state, *, most=None):
    """The addresses of the available steps in ascending order, or only of those of at most `most`."""
    check_small(job)
    steps = checked_state(job, state)
    if most is not None:
        check_number(most)
    found = [(address, row[0]) for address, row in steps.rows.items() if steps.may_do(address)]
    return tuple([address for address, step in found if most is None or step <= most])


def union(job, first, second):
    """The state of all steps that are in at least one of the two states."""
    _check_two_states(job, first, second)
    return tuple(sorted(set(first + second)))


def common(job, first, second):
    """The state of all steps that are in both states."""
    _check_two_states(job, first, second)
    return tuple(sorted(set(first) & set(second)))


def least_state(job, addresses):
    """The least state that contains the steps at all these addresses."""
    check_small(job)
    if not isinstance(addresses, tuple) or any([find_step(job, row) is None for row in addresses]):
        raise InvalidAddress("this is not a tuple of addresses of the job")
    wanted = {address: True for address in addresses}
    furthest = _furthest_indices(wanted)
    return tuple([address for address, _, gates in step_rows(job)
                  if address in wanted or _comes_before(address, gates, furthest)])


def checked_state(job, state):
    """The done steps of a small job in the state. Raises InvalidState for any other value."""
    steps = _find_state(job, state)
    if steps is None:
        raise InvalidState("this is not a state of the job")
    return steps


def _find_state(job, value):
    """The done steps of a small job in a state, or None if the value is not one."""
    steps = DoneSteps(job)
    # What precedes a step has a smaller address, so the steps of a state in ascending order are a run.
    return steps if steps.do_all(value) and _is_ascending(value) else None


def _is_ascending(addresses):
    return all([before < after for before, after in zip(addresses, addresses[1:])])


def _check_two_states(job, first, second):
    check_small(job)
    checked_state(job, first)
    checked_state(job, second)


def _furthest_indices(addresses):
    """The greatest index that follows each beginning of the addresses."""
    furthest = {}
    for address in addresses:
        for level, index in enumerate(address):
            around = address[:level]
            furthest[around] = max(index, furthest.get(around, 0))
    return furthest


def _comes_before(address, gates, furthest):
    """Whether the step precedes one of the steps that the furthest indices were taken from."""
    return any([address[level] < furthest.get(address[:level], 0) for level, _ in gates])
