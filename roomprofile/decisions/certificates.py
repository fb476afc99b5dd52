"""Certificates: plans and barriers that show whether a job fits a capacity."""

from roomprofile.barriers.find import barrier_of
from roomprofile.barriers.judge import judge_barrier
from roomprofile.barriers.weighed import weighed
from roomprofile.integers import check_number, is_integer
from roomprofile.jobs.jobs import checked_sizes
from roomprofile.plans.best import best_plan
from roomprofile.plans.chains import whole
from roomprofile.plans.plans import find_run
from roomprofile.profiles.composed import job_profile
from roomprofile.tuples import begins_with


def certificate(job, capacity):
    """Any certificate for the job and the capacity."""
    checked_sizes(job)
    check_number(capacity)
    barrier = barrier_of(job, capacity)
    return ("plan", best_plan(job)) if barrier is None else ("barrier", barrier)


def is_certificate(job, capacity, value):
    """Whether the value is a certificate for the job and the capacity."""
    checked_sizes(job)
    check_number(capacity)
    if begins_with(value, "plan", 2):
        peak = _peak_of_plan(job, value[1])
        return peak is not None and peak <= capacity
    return begins_with(value, "barrier", 2) and judge_barrier(weighed(job), capacity, value[1])


def least_certificate(job):
    """Any least certificate of the job."""
    checked_sizes(job)
    peak = job_profile(job)[1]
    return (peak, best_plan(job), barrier_of(job, peak - 1))


def is_least_certificate(job, value):
    """Whether the value is a least certificate of the job."""
    checked_sizes(job)
    if not isinstance(value, tuple) or len(value) != 3:
        return False
    capacity, plan, barrier = value
    if not is_integer(capacity) or _peak_of_plan(job, plan) != capacity:
        return False
    # Then the capacity is the least peak: the plan reaches no more, and no run reaches less.
    return judge_barrier(weighed(job), capacity - 1, barrier)


def _peak_of_plan(job, value):
    """The peak of the plan of the job, or None if the value is not one."""
    run = find_run(job, value)
    return None if run is None else whole(run.chain)[1]
