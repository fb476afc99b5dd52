"""Plans of jobs, and their chains."""

from roomprofile.errors import InvalidPlan
from roomprofile.integers import is_integer, is_within
from roomprofile.jobs.jobs import checked_sizes
from roomprofile.plans.building import plan_joined, plan_of_many, plan_of_parts, plan_of_step
from roomprofile.plans.chains import are_segments, end_marks, start_marks, valleys_of, whole
from roomprofile.plans.stretches import copies_run, joined_run, order_in_turn, parts_run, rounds_run, step_run
from roomprofile.profiles.forms import checked_profile
from roomprofile.tuples import begins_with

MAX_SEGMENTS = 2000


def is_plan(job, value):
    """Whether the value is a plan of the job."""
    checked_sizes(job)
    return find_run(job, value) is not None


def chain(job, plan):
    """The chain of the plan of the job."""
    checked_sizes(job)
    return checked_run(job, plan).chain


def plan_peak(job, plan):
    """The greatest usage that the plan of the job reaches, at least 0."""
    checked_sizes(job)
    return whole(checked_run(job, plan).chain)[1]


def chain_profile(chain):
    """The profile of the chain, where only the boundaries of its segments count as states."""
    if not isinstance(chain, tuple) or len(chain) > MAX_SEGMENTS or not are_segments(chain):
        raise InvalidPlan("this is not a chain")
    net, peak, _ = whole(chain)
    return checked_profile((net, peak, valleys_of(start_marks(chain)), valleys_of(end_marks(chain))))


def sequential_plan(job):
    """The plan that does everything one after another."""
    checked_sizes(job)
    return _in_turn(job)[0]


def checked_run(job, plan):
    """The run of the plan of the job. Raises InvalidPlan for any other value."""
    run = find_run(job, plan)
    if run is None:
        raise InvalidPlan("this is not a plan of the job")
    return run


def find_run(job, value):
    """The run of the plan of the job, or None if the value is not a plan of it."""
    if not begins_with(value, "join", 3):
        return _find_plain_run(job, value)
    inner = _find_plain_run(job, value[2])
    if inner is None or not _are_sizes(value[1], len(inner.chain)):
        return None
    return joined_run(value[1], inner)


def _find_plain_run(job, value):
    """As find_run, for plans that are not joins."""
    if is_integer(job):
        return step_run(job) if begins_with(value, "step", 1) else None
    if job[0] == "seq":
        return _find_run_of_seq(job, value)
    if job[0] == "par":
        return _find_run_of_par(job, value)
    return _find_run_of_many(job, value)


def _find_run_of_seq(job, value):
    parts = _find_runs(job[1], value[1]) if begins_with(value, "seq", 2) else None
    if parts is None:
        return None
    return parts_run(parts, order_in_turn(parts))


def _find_run_of_par(job, value):
    parts = _find_runs(job[1], value[1]) if begins_with(value, "par", 3) else None
    if parts is None or not _is_order(value[2], parts):
        return None
    return parts_run(parts, value[2])


def _find_run_of_many(job, value):
    inner = find_run(job[2], value[1]) if begins_with(value, job[0], 2) else None
    if inner is None:
        return None
    if job[0] == "copies":
        return copies_run(job[1], inner)
    run = rounds_run(job[1], inner)
    return run if len(run.chain) <= MAX_SEGMENTS else None


def _find_runs(jobs, plans):
    """The runs of plans of all these jobs, or None if the value is not a plan for each of them."""
    if not isinstance(plans, tuple) or len(plans) != len(jobs):
        return None
    runs = []
    segments = 0
    for job, plan in zip(jobs, plans):
        run = find_run(job, plan)
        if run is None:
            return None
        runs.append(run)
        segments += len(run.chain)
    return runs if segments <= MAX_SEGMENTS else None


def _are_sizes(value, total):
    """Whether the value is a tuple of positive integers with this sum."""
    if not isinstance(value, tuple) or len(value) > total:
        return False
    return all([is_integer(size) and size > 0 for size in value]) and sum(value) == total


def _is_order(value, parts):
    """Whether the value has each index as often as the chain of the part has segments."""
    left = [len(part.chain) for part in parts]
    if not isinstance(value, tuple) or len(value) != sum(left):
        return False
    for index in value:
        if not is_within(index, 0, len(left) - 1) or left[index] == 0:
            return False
        left[index] -= 1
    return True


def _in_turn(job):
    """The sequential plan and its run."""
    if is_integer(job):
        return plan_of_step(job)
    if job[0] in ("repeat", "copies"):
        return plan_of_many(job[0], job[1], _as_one(job[2]))
    parts = [_as_one(part) for part in job[1]]
    return plan_of_parts(job[0], parts, order_in_turn([part[1] for part in parts]))


def _as_one(job):
    """The sequential plan of a job within a job, with at most one segment, and its run."""
    pair = _in_turn(job)
    many = len(pair[1].chain)
    return plan_joined((many,) if many > 0 else (), pair)
