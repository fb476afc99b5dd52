"""The plan that is as good as the job in every surrounding."""

from heapq import heappop, heappush

from roomprofile.integers import is_integer
from roomprofile.jobs.jobs import checked_sizes
from roomprofile.plans.building import plan_joined, plan_of_many, plan_of_parts, plan_of_step
from roomprofile.plans.chains import end_marks, start_marks
from roomprofile.plans.stretches import order_in_turn


def best_plan(job):
    """Any plan whose chain has the profile of the job."""
    checked_sizes(job)
    return best_pair(job)[0]


def best_pair(job):
    """The best plan of what is built like a job, and its run."""
    if is_integer(job):
        return plan_of_step(job)
    if job[0] in ("repeat", "copies"):
        return plan_of_many(job[0], job[1], _joined(job[2]))
    parts = [_joined(part) for part in job[1]]
    runs = [part[1] for part in parts]
    return plan_of_parts(job[0], parts, order_in_turn(runs) if job[0] == "seq" else _best_order(runs))


def _joined(job):
    """The best plan of a job within a job, joined at the boundaries where its valleys begin, and its run.

    Its segments first go down, then one may come back to where it began, and then they go up.
    """
    pair = best_pair(job)
    segments = pair[1].chain
    marks = start_marks(segments) + end_marks(segments)
    boundaries = sorted(set([0, len(segments)] + [mark[2] for mark in marks]))
    return plan_joined(tuple([after - before for before, after in zip(boundaries, boundaries[1:])]), pair)


def _best_order(runs):
    """The order that takes all parts down as early and up as late as possible, as their indices."""
    chains = [run.chain for run in runs]
    downs = [[peak for net, peak, _ in segments if net < 0] for segments in chains]
    level = [index for index, segments in enumerate(chains) for segment in segments if segment[0] == 0]
    # Going up is going down in the mirror, which has the segments (-net, peak - net, steps).
    ups = [[peak - net for net, peak, _ in reversed(segments) if net > 0] for segments in chains]
    return _least_first(downs) + level + _least_first(ups)[::-1]


def _least_first(rows):
    """The indices of the rows in the order in which their peaks are taken, always the least next one."""
    queue = []
    for index, row in enumerate(rows):
        if row:
            heappush(queue, (row[0], index, 0))
    order = []
    while queue:
        _, index, place = heappop(queue)
        order.append(index)
        if place + 1 < len(rows[index]):
            heappush(queue, (rows[index][place + 1], index, place + 1))
    return order
