"""The run of a plan, and what can be told of any place in it."""

from roomprofile.errors import InvalidAddress
from roomprofile.integers import check_within
from roomprofile.jobs.addresses import check_small, find_step
from roomprofile.jobs.jobs import checked_sizes
from roomprofile.plans.plans import checked_run


def run_of_plan(job, plan):
    """The run of the plan of a small job."""
    check_small(job)
    run = checked_run(job, plan)
    return tuple([run.address_at(position) for position in range(run.steps())])


def step_at(job, plan, position):
    """The address of the step before which so many steps are done."""
    run = _run(job, plan)
    check_within(position, 0, run.steps() - 1)
    return run.address_at(position)


def position_of(job, plan, address):
    """The number of steps before the step at the address."""
    run = _run(job, plan)
    if find_step(job, address) is None:
        raise InvalidAddress("this is not an address of the job")
    return run.place_of(address)


def usage_at(job, plan, count):
    """The usage after so many steps."""
    run = _run(job, plan)
    check_within(count, 0, run.steps())
    return run.usage_after(count)


def peak_between(job, plan, first, last):
    """The greatest usage from the first count of steps to the last one."""
    run = _run(job, plan)
    check_within(first, 0, run.steps())
    check_within(last, first, run.steps())
    return run.peak_within(first, last)


def _run(job, plan):
    checked_sizes(job)
    return checked_run(job, plan)
