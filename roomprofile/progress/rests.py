"""What is left of a job after some steps; nothing here is made tidy yet."""

from roomprofile.integers import is_integer
from roomprofile.jobs.jobs import EMPTY


def remainder(job, choice):
    """What is left of the job when the step at the choice is done."""
    if is_integer(job):
        return EMPTY
    if job[0] in ("repeat", "copies"):
        left = remainder(job[2], choice[1:])
        return ("seq" if job[0] == "repeat" else "par", (left, (job[0], job[1] - 1, job[2])))
    index = choice[0]
    left = remainder(job[1][index], choice[1:])
    # What stands before the chosen part of a sequence is empty, and tidy jobs are without it.
    return (job[0], job[1][:index] + (left,) + job[1][index + 1:])


def rest_after(job, run, count):
    """What is left of the job after the first `count` steps of the run of a plan of it."""
    if count == 0:
        return job
    if count == run.steps():
        return EMPTY
    first = run.stretches[0]
    if first.index is None:
        # The plan is a join; a step is either all left or all done.
        return rest_after(job, first.inner, count)
    if job[0] == "repeat":
        return _rest_of_rounds(job, first.inner, count)
    if job[0] == "copies":
        return _rest_of_copies(job, run, count)
    return _rest_of_parts(job, run, count)


def _rest_of_parts(job, run, count):
    runs = {}
    done = {}
    left = count
    for stretch in run.stretches:
        steps = min(left, stretch.once[2])
        runs[stretch.index] = stretch.inner
        done[stretch.index] = done.get(stretch.index, 0) + steps
        left -= steps
    rests = []
    for index, part in enumerate(job[1]):
        # A part without stretches is empty.
        rests.append(rest_after(part, runs[index], done[index]) if index in runs else EMPTY)
    return (job[0], tuple(rests))


def _rest_of_rounds(job, inner_run, count):
    _, n, inner = job
    rounds, steps = divmod(count, inner_run.steps())
    if steps == 0:
        return ("repeat", n - rounds, inner)
    return ("seq", (rest_after(inner, inner_run, steps), ("repeat", n - rounds - 1, inner)))


def _rest_of_copies(job, run, count):
    _, n, inner = job
    at = run.stretch_at(count)
    stretch = run.stretches[at]
    ahead, steps = divmod(count - run.steps_before[at], stretch.once[2])
    begin = stretch.begin
    rows = [(ahead, begin + stretch.once[2]), (min(1, steps), begin + steps), (n - ahead - min(1, steps), begin)]
    # Only where there are copies is their rest made: else those within one another would be too many.
    return ("par", tuple([("copies", many, rest_after(inner, stretch.inner, done)) for many, done in rows if many > 0]))
