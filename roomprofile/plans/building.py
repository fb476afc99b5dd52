"""Plans together with their runs, as pairs (plan, run), built from those of the inner jobs."""

from roomprofile.plans.stretches import copies_run, joined_run, parts_run, rounds_run, step_run


def plan_of_step(step):
    """The pair of a step."""
    return (("step",), step_run(step))


def plan_of_parts(kind, parts, order):
    """The pair of a "seq" or "par" whose parts have these pairs and are done in this order."""
    plans = tuple([part[0] for part in parts])
    run = parts_run([part[1] for part in parts], order)
    return (("seq", plans) if kind == "seq" else ("par", plans, tuple(order)), run)


def plan_of_many(kind, n, inner):
    """The pair of a "repeat" or "copies" whose inner job has this pair."""
    plan, run = inner
    return ((kind, plan), rounds_run(n, run) if kind == "repeat" else copies_run(n, run))


def plan_joined(sizes, inner):
    """The pair of the inner plan with groups of so many segments joined, or its own if they are single ones."""
    plan, run = inner
    if len(sizes) == len(run.chain):
        return inner
    return (("join", sizes, plan), joined_run(sizes, run))
