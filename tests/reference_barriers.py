"""Floors and barriers, by the rows of the tables of 8.2 and 8.3.

Nothing here uses the program.
"""


def net_of(job):
    if isinstance(job, int):
        return job
    if job[0] in ('seq', 'par'):
        return sum(net_of(part) for part in job[1])
    return job[1] * net_of(job[2])


def lowest_of(job):
    """The lowest usage, by the words of 1.3."""
    if isinstance(job, int):
        return min(0, job)
    if job[0] == 'seq':
        return min([0] + [before + lowest_of(part) for before, part in zip(nets_before(job), job[1])])
    if job[0] == 'par':
        return sum(lowest_of(part) for part in job[1])
    if job[1] == 0:
        return 0
    if job[0] == 'copies':
        return job[1] * lowest_of(job[2])
    return lowest_of(job[2]) + (job[1] - 1) * min(0, net_of(job[2]))


def nets_before(job):
    return [sum(net_of(part) for part in job[1][:at]) for at in range(len(job[1]))]


def mirror_of(job):
    if isinstance(job, int):
        return -job
    if job[0] in ('seq', 'par'):
        parts = tuple(mirror_of(part) for part in job[1])
        return (job[0], parts[::-1] if job[0] == 'seq' else parts)
    return (job[0], job[1], mirror_of(job[2]))


def is_number(value):
    return value.__class__ is int


def row(value, word, length):
    return value.__class__ is tuple and len(value) == length and value[0].__class__ is str and value[0] == word


def are_tuples(parts, *values):
    return all(value.__class__ is tuple and len(value) == len(parts) for value in values)


def kind_of(job):
    return 'step' if isinstance(job, int) else job[0]


def is_floor_by_words(job, capacity, low, value):
    """8.2."""
    if capacity < 0 or low > 0:
        return False
    if row(value, 'lowest', 1):
        return lowest_of(job) >= low
    kind = kind_of(job)
    if kind == 'step':
        return row(value, 'step', 1) and (job > capacity or job >= low)
    if kind == 'seq':
        return row(value, 'seq', 3) and is_floor_of_seq(job, capacity, low, value)
    if kind == 'par':
        if not row(value, 'par', 3) or not are_tuples(job[1], value[1], value[2]) or not all(map(is_number, value[1])):
            return False
        return sum(value[1]) >= low and are_floors_for_lows(job[1], capacity, value[1], value[2])
    n, inner = job[1:]
    change = net_of(inner)
    if n == 0:
        return False
    if kind == 'repeat' and row(value, 'round', 2):
        back = 0 if change >= 0 else (n - 1) * change
        return is_floor_by_words(inner, capacity - back, low - back, value[1])
    if kind == 'repeat':
        good = row(value, 'first', 3) and is_floor_by_words(inner, capacity, low, value[1])
        return good and is_barrier_by_words(inner, capacity, value[2])
    if not row(value, 'copies', 3) or not is_number(value[1]) or value[1] > 0 or n * value[1] < low:
        return False
    return is_floor_by_words(inner, capacity - (n - 1) * value[1], value[1], value[2])


def is_floor_of_seq(job, capacity, low, value):
    _, floors, barrier = value
    if floors.__class__ is not tuple or not 0 < len(floors) <= len(job[1]):
        return False
    rows = list(zip(nets_before(job), job[1], floors))
    if not all(is_floor_by_words(part, capacity - before, low - before, floor) for before, part, floor in rows):
        return False
    if len(floors) == len(job[1]):
        return barrier is None
    before, part, _ = rows[-1]
    return is_barrier_by_words(part, capacity - before, barrier)


def are_floors_for_lows(parts, capacity, lows, floors):
    for at, (part, floor) in enumerate(zip(parts, floors)):
        others = sum(lows[:at] + lows[at + 1:])
        if lows[at] > 0 or not is_floor_by_words(part, capacity - others, lows[at], floor):
            return False
    return True


def is_barrier_by_words(job, capacity, value, mirrored=False):
    """8.3."""
    if row(value, 'net', 1):
        return capacity < 0 or capacity < net_of(job)
    if row(value, 'mirror', 2):
        return not mirrored and is_barrier_by_words(mirror_of(job), capacity - net_of(job), value[1], mirrored=True)
    kind = kind_of(job)
    if kind == 'seq' and row(value, 'part', 3) and is_number(value[1]) and value[1] in range(len(job[1])):
        return is_barrier_by_words(job[1][value[1]], capacity - nets_before(job)[value[1]], value[2])
    if kind == 'par' and row(value, 'high', 3) and is_number(value[1]) and value[1] in range(len(job[1])):
        others = sum(lowest_of(part) for at, part in enumerate(job[1]) if at != value[1])
        return is_barrier_by_words(job[1][value[1]], capacity - others, value[2])
    if kind == 'par' and row(value, 'front', 3) and are_tuples(job[1], value[1], value[2]) and all(map(is_number, value[1])):
        good = capacity >= 0 and sum(value[1]) > lowest_of(job)
        return good and are_floors_for_lows(job[1], capacity, value[1], value[2])
    if kind in ('repeat', 'copies') and job[1] > 0:
        n, inner = job[1:]
        if kind == 'repeat' and row(value, 'round', 2):
            return is_barrier_by_words(inner, capacity - max(0, (n - 1) * net_of(inner)), value[1])
        if kind == 'copies' and row(value, 'high', 2):
            return is_barrier_by_words(inner, capacity - (n - 1) * lowest_of(inner), value[1])
        if kind == 'copies' and row(value, 'front', 3) and is_number(value[1]):
            good = capacity >= 0 and lowest_of(inner) < value[1] <= 0
            return good and is_floor_by_words(inner, capacity - (n - 1) * value[1], value[1], value[2])
    return False


def random_floor(source, job, capacity, low, depth=4):
    """A value that has the form of a floor of the job, and may be one: most of its numbers fit."""
    kind = kind_of(job)
    if depth == 0 or source.random() < 0.15:
        return source.choice([('lowest',), ('lowest',), ('step',)])
    if kind == 'step':
        return source.choice([('step',), ('lowest',)])
    if kind == 'seq':
        many = source.randint(0, len(job[1]))
        rows = list(zip(nets_before(job), job[1]))[:many]
        floors = tuple(random_floor(source, part, capacity - before, low - before, depth - 1) for before, part in rows)
        barrier = None
        if rows and (many < len(job[1])) != (source.random() < 0.05):
            barrier = random_barrier(source, rows[-1][1], capacity - rows[-1][0], depth - 1)
        return ('seq', floors, barrier)
    if kind == 'par':
        return ('par', *random_lows(source, job[1], capacity, depth))
    if kind == 'repeat':
        if source.random() < 0.5:
            back = min(0, (job[1] - 1) * net_of(job[2]))
            return ('round', random_floor(source, job[2], capacity - back, low - back, depth - 1))
        floor = random_floor(source, job[2], capacity, low, depth - 1)
        return ('first', floor, random_barrier(source, job[2], capacity, depth - 1))
    return ('copies', *random_low(source, job, capacity, depth))


def random_lows(source, parts, capacity, depth):
    lows = tuple(source.choice([0, 0, lowest_of(part), source.randint(-6, 1)]) for part in parts)
    floors = []
    for at, part in enumerate(parts):
        floors.append(random_floor(source, part, capacity - sum(lows) + lows[at], lows[at], depth - 1))
    return lows, tuple(floors)


def random_low(source, job, capacity, depth):
    low = source.choice([0, 0, lowest_of(job[2]), source.randint(-6, 1)])
    return low, random_floor(source, job[2], capacity - (job[1] - 1) * low, low, depth - 1)


def random_barrier(source, job, capacity, depth=4):
    """A value that has the form of a barrier of the job, and may be one: most of its numbers fit."""
    kind = kind_of(job)
    if depth == 0 or kind == 'step' or source.random() < 0.15:
        return ('net',)
    if source.random() < 0.25:
        return ('mirror', random_barrier(source, mirror_of(job), capacity - net_of(job), depth - 1))
    if kind in ('seq', 'par') and job[1] and (kind == 'seq' or source.random() < 0.5):
        at = source.randint(0, len(job[1]) - 1)
        other = nets_before(job)[at] if kind == 'seq' else lowest_of(job) - lowest_of(job[1][at])
        word = 'part' if kind == 'seq' else 'high'
        return (word, at, random_barrier(source, job[1][at], capacity - other, depth - 1))
    if kind == 'par':
        return ('front', *random_lows(source, job[1], capacity, depth))
    if kind == 'repeat':
        return ('round', random_barrier(source, job[2], capacity - max(0, (job[1] - 1) * net_of(job[2])), depth - 1))
    if kind == 'copies' and source.random() < 0.5:
        return ('high', random_barrier(source, job[2], capacity - (job[1] - 1) * lowest_of(job[2]), depth - 1))
    if kind == 'copies':
        return ('front', *random_low(source, job, capacity, depth))
    return ('net',)
