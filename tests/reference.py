"""What the document says of jobs of a few steps, by going through all steps, states and runs one by one.

Nothing here uses the program.
"""

import math
import random


def steps_of(job):
    """All pairs (address, step) of a job of a few steps (2.1)."""
    if isinstance(job, int):
        return [((), job)]
    if job[0] in ('seq', 'par'):
        inner = list(enumerate(job[1]))
    else:
        inner = [(index, job[2]) for index in range(job[1])]
    return [((index,) + address, step) for index, part in inner for address, step in steps_of(part)]


def is_before(job, first, second):
    """Whether one step precedes another one (2.2)."""
    if first == second:
        return False
    if first[0] != second[0]:
        return job[0] in ('seq', 'repeat') and first[0] < second[0]
    inner = job[1][first[0]] if job[0] in ('seq', 'par') else job[2]
    return is_before(inner, first[1:], second[1:])


class Order:
    """The steps of a small job, what precedes each of them, and all states."""

    def __init__(self, job):
        self.value = dict(steps_of(job))
        self.before = {one: {other for other in self.value if is_before(job, other, one)} for one in self.value}
        self.full = frozenset(self.value)

    def usage(self, state):
        return sum(self.value[one] for one in state)

    def available(self, state):
        return sorted(one for one in self.value if one not in state and self.before[one] <= state)

    def states(self):
        """All states, smaller ones first."""
        layer = {frozenset()}
        found = []
        while layer:
            found.extend(sorted(layer, key=sorted))
            layer = {state | {one} for state in layer for one in self.available(state)}
        return found

    def runs(self, state=frozenset()):
        """All runs from a state, complete or not."""
        yield ()
        for one in self.available(state):
            for run in self.runs(state | {one}):
                yield (one,) + run

    def complete_runs(self, state=frozenset()):
        if state == self.full:
            yield ()
        for one in self.available(state):
            for run in self.complete_runs(state | {one}):
                yield (one,) + run

    def peak(self, run, state=frozenset()):
        usages = [self.usage(state)]
        for one in run:
            usages.append(usages[-1] + self.value[one])
        return max(usages)


def staircase(pairs, first):
    """The valleys with the least usage at each capacity from the first one on."""
    rows = []
    for capacity, usage in sorted((max(first, capacity), usage) for capacity, usage in pairs):
        if not rows or usage < rows[-1][1]:
            rows.append((capacity, usage))
    return tuple(rows)


def profile_of(job):
    """The profile of a job of a few steps (5.1, 4.2), from all its states."""
    order = Order(job)
    states = order.states()
    reach = {frozenset(): 0}
    for state in states[1:]:
        ways = [reach[state - {one}] for one in state if state - {one} in reach]
        reach[state] = max(order.usage(state), min(ways))
    leave = {order.full: order.usage(order.full)}
    for state in reversed(states[:-1]):
        leave[state] = max(order.usage(state), min(leave[state | {one}] for one in order.available(state)))
    total = order.usage(order.full)
    start = staircase([(reach[state], order.usage(state)) for state in states], 0)
    end = staircase([(leave[state], order.usage(state)) for state in states], total)
    return (total, reach[order.full], start, end)


def normal_steps(profile):
    """The normal form of a profile, by the words of 5.3."""
    net, peak, start, end = profile
    usages = [0, start[0][1]]
    for capacity, usage in start[1:]:
        usages += [capacity, usage]
    if peak > max(start[-1][0], end[-1][0]):
        usages += [peak, start[-1][1]]
    for index in range(len(end) - 1, 0, -1):
        usages += [end[index][0], end[index - 1][1]]
    usages.append(net)
    return tuple(after - before for before, after in zip(usages, usages[1:]) if after != before)


def value_at(pairs, capacity):
    values = [usage for least, usage in pairs if least <= capacity]
    return values[-1] if values else None


def joint_lows_by_words(parts, capacity, pick):
    """The joint lows by replacing one low after another, in the order that `pick` makes (4.3)."""
    lows = [0] * len(parts)
    while True:
        news = [value_at(part, capacity - sum(lows) + low) for part, low in zip(parts, lows)]
        changes = [index for index, new in enumerate(news) if new != lows[index]]
        if not changes:
            return tuple(lows)
        index = pick(changes)
        lows[index] = news[index]


def random_job(source, steps, levels=4, largest=6):
    """A job of at most so many steps, often with empty parts."""
    if steps == 1 and (levels <= 1 or source.random() < 0.7):
        return source.randint(-largest, largest)
    if steps < 1 or levels <= 1:
        return source.choice([('seq', ()), ('par', ()), ('repeat', 0, 5), ('copies', 0, ('seq', (1, -2)))])
    kind = source.choice(['seq', 'seq', 'par', 'par', 'repeat', 'copies'])
    if kind in ('repeat', 'copies'):
        count = source.randint(1, max(1, min(3, steps)))
        return (kind, count, random_job(source, steps // count, levels - 1, largest))
    parts = []
    left = steps
    while left > 0 and len(parts) < 4:
        size = source.randint(0, left)
        parts.append(random_job(source, size, levels - 1, largest))
        left -= size
    return (kind, tuple(parts))


def random_jobs(seed, many, steps, **more):
    source = random.Random(seed)
    return [random_job(source, source.randint(0, steps), **more) for _ in range(many)]


def random_valleys(source, first, high, longest=5, spread=6):
    """Valleys with this first capacity, and with a first usage of at most `high`."""
    rows = [(first, high - source.randint(0, 3))]
    for _ in range(source.randint(0, longest - 1)):
        rows.append((rows[-1][0] + source.randint(1, spread), rows[-1][1] - source.randint(1, spread)))
    return tuple(rows)


def random_profile(source, longest=4):
    """A profile in the sense of 5.2."""
    start = random_valleys(source, 0, 0, longest)
    low = start[-1][1]
    net = low + source.randint(0, 6)
    end = [(net, net - source.randint(0, net - low))]
    while end[-1][1] > low:
        end.append((end[-1][0] + source.randint(1, 6), max(low, end[-1][1] - source.randint(1, 6))))
    peak = max(0, net, start[-1][0], end[-1][0]) + source.choice([0, 0, 1, 5])
    return (net, peak, start, tuple(end))


def is_profile_by_words(value):
    """Whether a tuple of two integers and two tuples of pairs is a profile (5.2)."""
    net, peak, start, end = value
    for pairs in (start, end):
        if not 1 <= len(pairs) <= 400 or any(left[0] >= right[0] or left[1] <= right[1] for left, right in zip(pairs, pairs[1:])):
            return False
    if peak < 0 or peak < net or start[0][0] != 0 or start[0][1] > 0 or end[0][0] != net or end[0][1] > net:
        return False
    return start[-1][1] == end[-1][1] and all(capacity <= peak for capacity, _ in start + end)


def reversed_profile(profile):
    """The profile of the mirror (5.4)."""
    net, peak, start, end = profile
    back = [tuple((capacity - net, usage - net) for capacity, usage in pairs) for pairs in (end, start)]
    return (-net, peak - net, back[0], back[1])


def uneven_job(source):
    """A small job of sequences that go down and up in several valleys, beside and after one another."""
    def steps(longest):
        profile = random_profile(source, longest)
        return ('seq', normal_steps(source.choice([profile, reversed_profile(profile)])))
    return source.choice([
        lambda: ('par', (steps(4), steps(4))),
        lambda: ('par', (steps(3), steps(2), source.randint(-5, 5))),
        lambda: ('par', (steps(2), steps(2), steps(2))),
        lambda: ('copies', 2, steps(4)),
        lambda: ('copies', 3, steps(2)),
        lambda: ('seq', (steps(2), ('par', (steps(2), steps(3))), steps(2))),
        lambda: ('repeat', 2, ('par', (steps(2), steps(2)))),
        lambda: ('repeat', 3, steps(3)),
        lambda: ('par', (('repeat', 2, steps(2)), steps(2))),
        lambda: ('copies', 2, ('repeat', 2, steps(2))),
        lambda: ('copies', 2, ('seq', (('par', (steps(2), source.randint(-5, 5))), steps(1)))),
    ])()


def uneven_jobs(seed, many, most=400):
    """Jobs of the kind above of which all states can be gone through, so many of them."""
    source = random.Random(seed)
    found = []
    while len(found) < many:
        job = uneven_job(source)
        if state_count(job) <= most:
            found.append(job)
    return found


def state_count(job):
    if isinstance(job, int):
        return 2
    if job[0] in ('seq', 'par'):
        counts = [state_count(part) for part in job[1]]
    else:
        counts = [state_count(job[2])] * job[1]
    if job[0] in ('seq', 'repeat'):
        return sum(counts) - len(counts) + 1
    return math.prod(counts)
