"""Contexts, what is plugged into them, and when one job can replace another one, by the words of 10.1 to 10.4.

Nothing here uses the program.
"""

from tests.reference import normal_steps, random_job, reversed_profile, value_at

HOLE = ('hole',)


def is_number(value):
    return value.__class__ is int


def is_tuple(value, length):
    return value.__class__ is tuple and len(value) == length


def nodes_by_words(value, levels):
    """The pair (nodes, steps) of what is built like a job with holes, or None for any other value."""
    if levels == 0:
        return None
    if is_number(value):
        return (1, 1) if abs(value) < 10 ** 61 else None
    if is_tuple(value, 1) and value[0].__class__ is str and value[0] == 'hole':
        return (1, 0)
    if not value.__class__ is tuple or len(value) not in (2, 3) or value[0].__class__ is not str:
        return None
    if len(value) == 3 and value[0] in ('repeat', 'copies'):
        inner = nodes_by_words(value[2], levels - 1)
        if not is_number(value[1]) or not 0 <= value[1] <= 10 ** 30 or inner is None:
            return None
        found = (inner[0] + 1, inner[1] * value[1])
    elif len(value) == 2 and value[0] in ('seq', 'par') and value[1].__class__ is tuple and len(value[1]) <= 400:
        parts = [nodes_by_words(part, levels - 1) for part in value[1]]
        if None in parts:
            return None
        found = (1 + sum(part[0] for part in parts), sum(part[1] for part in parts))
    else:
        return None
    return found if found[0] <= 400 and found[1] <= 10 ** 30 else None


def hole_depths(value):
    """For each hole, how many repeats and copies are around it."""
    if is_number(value):
        return []
    if value[0] == 'hole':
        return [0]
    if value[0] in ('seq', 'par'):
        return [depth for part in value[1] for depth in hole_depths(part)]
    return [depth + 1 for depth in hole_depths(value[2])]


def is_context_by_words(value):
    """10.1, for values that are not too wide to go through."""
    return nodes_by_words(value, 13) is not None and hole_depths(value) == [0]


def plugged_by_words(context, job):
    if is_number(context):
        return context
    if context == HOLE:
        return job
    if context[0] in ('seq', 'par'):
        return (context[0], tuple(plugged_by_words(part, job) for part in context[1]))
    return (context[0], context[1], plugged_by_words(context[2], job))


def is_at_most_by_words(first, second):
    """The four conditions of 10.3, at every capacity where one of the valleys changes."""
    if first[0] > second[0] or first[1] > second[1]:
        return False
    for at, least in ((2, 0), (3, second[0])):
        for capacity in sorted({pair[0] for pair in first[at] + second[at]} | {least}):
            if capacity >= least and value_at(first[at], capacity) > value_at(second[at], capacity):
                return False
    return True


def random_context(source, steps=3, levels=3):
    """A context with a few steps, often with empty parts."""
    if levels == 0 or source.random() < 0.2:
        return HOLE
    parts = [random_job(source, source.randint(0, steps), levels=3) for _ in range(source.randint(0, 2))]
    parts.insert(source.randint(0, len(parts)), random_context(source, 1, levels - 1))
    return (source.choice(['seq', 'par', 'par']), tuple(parts))


def telling_contexts(source, profiles):
    """Contexts that go up and down near the usages of these profiles."""
    usages = [0] + [number for net, peak, start, end in profiles for number in (net, peak, *sum(start + end, ()))]
    found = [HOLE]
    for _ in range(6):
        first, second = source.choice(usages), source.choice(usages)
        up = abs(first - second) + source.randint(-1, 1)
        down = source.choice(usages) + source.randint(0, 9)
        found.append(('par', (HOLE, ('seq', (up, -up - down)))))
        found.append(('par', (HOLE, ('seq', (up + abs(down), -up)))))
        found.append(('seq', (-up, HOLE, up)))
        found.append(('seq', (HOLE, up)))
    return found


def job_with(profile, source):
    """A job with this profile, or with that of its mirror."""
    return ('seq', normal_steps(source.choice([profile, reversed_profile(profile)])))
