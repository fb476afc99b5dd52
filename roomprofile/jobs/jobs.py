"""Jobs: steps, and what is composed of them in sequence, in parallel, in repeats and in copies."""

from roomprofile.errors import InvalidJob, TooMany
from roomprofile.integers import is_integer, is_within

MAX_STEP = 10 ** 30
MAX_COUNT = 10 ** 30
MAX_PARTS = 400
MAX_NODES = 400
MAX_DEPTH = 13

EMPTY = ("seq", ())


def is_job(value):
    """Whether the value is a job."""
    return sizes_of(value, steps_of_leaf) is not None


def node_count(job):
    """The number of nodes of the job."""
    return checked_sizes(job)[0]


def step_count(job):
    """The number of steps of the job, where repeats and copies count n times."""
    return checked_sizes(job)[1]


def is_empty(job):
    """Whether the job has no step."""
    return checked_sizes(job)[1] == 0


def net(job):
    """The sum of all steps of the job."""
    checked_sizes(job)
    return _net_and_lowest(job)[0]


def lowest(job):
    """The least usage after any set of steps of the job that can be done."""
    checked_sizes(job)
    return _net_and_lowest(job)[1]


def mirror(job):
    """The job read from its end."""
    checked_sizes(job)
    return mirrored(job)


def tidy(job):
    """The tidy form of the job."""
    checked_sizes(job)
    result = tidied(job)
    if not is_job(result):
        raise TooMany(MAX_NODES)
    return result


def checked_sizes(job):
    """The pair (nodes, steps) of the job. Raises InvalidJob for any other value."""
    sizes = sizes_of(job, steps_of_leaf)
    if sizes is None:
        raise InvalidJob("this is not a job")
    return sizes


def steps_of_leaf(value):
    """How many steps a value without jobs within it has in a job, or None if it may not stand there."""
    return 1 if is_within(value, -MAX_STEP, MAX_STEP) else None


def sizes_of(value, leaf_steps):
    """The pair (nodes, steps) of what is built like a job within its limits, or None for any other value.

    `leaf_steps` says of any value what steps_of_leaf says of it for jobs.
    """
    return _sizes(value, leaf_steps, MAX_NODES, MAX_DEPTH)


def _sizes(value, leaf_steps, room, levels):
    """As sizes_of, within so many nodes and levels.

    It goes no further than the room and the levels, so that a value of any size is refused soon.
    """
    if room < 1 or levels < 1:
        return None
    steps = leaf_steps(value)
    if steps is not None:
        return (1, steps)
    if not isinstance(value, tuple):
        return None
    if len(value) == 2 and value[0] in ("seq", "par"):
        return _sizes_of_parts(value[1], leaf_steps, room, levels)
    if len(value) == 3 and value[0] in ("repeat", "copies"):
        return _sizes_of_rounds(value[1], value[2], leaf_steps, room, levels)
    return None


def _sizes_of_parts(parts, leaf_steps, room, levels):
    if not isinstance(parts, tuple) or len(parts) > MAX_PARTS:
        return None
    nodes = 1
    steps = 0
    for part in parts:
        sizes = _sizes(part, leaf_steps, room - nodes, levels - 1)
        if sizes is None:
            return None
        nodes += sizes[0]
        steps += sizes[1]
    return _within_count(nodes, steps)


def _sizes_of_rounds(n, inner, leaf_steps, room, levels):
    if not is_within(n, 0, MAX_COUNT):
        return None
    sizes = _sizes(inner, leaf_steps, room - 1, levels - 1)
    if sizes is None:
        return None
    return _within_count(sizes[0] + 1, sizes[1] * n)


def _within_count(nodes, steps):
    # This holds for each job within a job, too: the 0 rounds of an outer repeat excuse nothing.
    return (nodes, steps) if steps <= MAX_COUNT else None


def _net_and_lowest(job):
    if is_integer(job):
        return (job, min(0, job))
    if job[0] == "seq":
        return _net_and_lowest_of_seq(job[1])
    if job[0] == "par":
        pairs = [_net_and_lowest(part) for part in job[1]]
        return (sum([pair[0] for pair in pairs]), sum([pair[1] for pair in pairs]))
    n = job[1]
    inner_net, inner_low = _net_and_lowest(job[2])
    if n == 0:
        return (0, 0)
    if job[0] == "copies":
        return (n * inner_net, n * inner_low)
    return (n * inner_net, inner_low + (n - 1) * min(0, inner_net))


def _net_and_lowest_of_seq(parts):
    before = 0
    low = 0
    for part in parts:
        part_net, part_low = _net_and_lowest(part)
        low = min(low, before + part_low)
        before += part_net
    return (before, low)


def mirrored(job):
    """The mirror of what is built like a job, whatever its size."""
    if is_integer(job):
        return -job
    if job[0] in ("repeat", "copies"):
        return (job[0], job[1], mirrored(job[2]))
    parts = [mirrored(part) for part in job[1]]
    return (job[0], tuple(parts[::-1] if job[0] == "seq" else parts))


def tidied(job):
    """The tidy form of what is built like a job, whatever its size."""
    if is_integer(job):
        return job
    if job[0] in ("seq", "par"):
        return _tidied_parts(job[0], [tidied(part) for part in job[1]])
    return _tidied_rounds(job[0], job[1], tidied(job[2]))


def _tidied_parts(kind, tidy_parts):
    parts = []
    for part in tidy_parts:
        if _has_kind(part, kind):
            parts.extend(part[1])
        elif part != EMPTY:
            parts.append(part)
    if kind == "par":
        parts = _grouped(parts)
    if len(parts) == 1:
        return parts[0]
    return (kind, tuple(parts)) if parts else EMPTY


def _grouped(parts):
    # Jobs may be nested too deep to be keys of a dict, so they are looked for in a list.
    kinds = []
    counts = []
    for part in parts:
        n, inner = (part[1], part[2]) if _has_kind(part, "copies") else (1, part)
        if inner in kinds:
            counts[kinds.index(inner)] += n
        else:
            kinds.append(inner)
            counts.append(n)
    return [inner if n == 1 else ("copies", n, inner) for n, inner in zip(counts, kinds)]


def _tidied_rounds(kind, n, inner):
    if n == 0 or inner == EMPTY:
        return EMPTY
    if _has_kind(inner, kind):
        return (kind, n * inner[1], inner[2])
    return inner if n == 1 else (kind, n, inner)


def _has_kind(job, kind):
    return isinstance(job, tuple) and job[0] == kind
