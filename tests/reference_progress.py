"""Tidy jobs, choices, remainders and rests, by the rows of 1.5, 11.1, 11.2 and 11.3.

Nothing here uses the program.
"""

from tests.reference_plans import chain_by_words

EMPTY = ('seq', ())


def steps_in(job):
    if isinstance(job, int):
        return 1
    if job[0] in ('seq', 'par'):
        return sum(steps_in(part) for part in job[1])
    return job[1] * steps_in(job[2])


def nodes_in(job):
    if isinstance(job, int):
        return 1
    return 1 + sum(nodes_in(part) for part in (job[1] if job[0] in ('seq', 'par') else job[2:]))


def levels_in(job):
    if isinstance(job, int):
        return 1
    return 1 + max([levels_in(part) for part in (job[1] if job[0] in ('seq', 'par') else job[2:])], default=0)


def is_job_by_words(job):
    """Whether what is built like a job is within the limits of 1.1."""
    return nodes_in(job) <= 400 and levels_in(job) <= 13 and most_steps(job) <= 10 ** 30


def most_steps(job):
    """The greatest number of steps of the job and of the jobs within it."""
    if isinstance(job, int):
        return 1
    parts = job[1] if job[0] in ('seq', 'par') else job[2:]
    return max([steps_in(job)] + [most_steps(part) for part in parts])


def tidy_by_words(job):
    """1.5."""
    if steps_in(job) == 0:
        return EMPTY
    if isinstance(job, int):
        return job
    if job[0] in ('repeat', 'copies'):
        n, inner = job[1], tidy_by_words(job[2])
        while not isinstance(inner, int) and inner[0] == job[0]:
            n, inner = n * inner[1], inner[2]
        return inner if n == 1 else (job[0], n, inner)
    parts = []
    for part in map(tidy_by_words, job[1]):
        if part != EMPTY:
            parts += part[1] if not isinstance(part, int) and part[0] == job[0] else (part,)
    if job[0] == 'par':
        parts = grouped(parts)
    return parts[0] if len(parts) == 1 else (job[0], tuple(parts))


def grouped(parts):
    rows = []
    for part in parts:
        n, inner = part[1:] if not isinstance(part, int) and part[0] == 'copies' else (1, part)
        for row in rows:
            if row[1] == inner:
                row[0] += n
                break
        else:
            rows.append([n, inner])
    return [inner if n == 1 else ('copies', n, inner) for n, inner in rows]


def choices_by_words(job):
    """11.1."""
    if steps_in(job) == 0:
        return []
    if isinstance(job, int):
        return [()]
    if job[0] in ('repeat', 'copies'):
        return [(0,) + choice for choice in choices_by_words(job[2])]
    indices = [index for index, part in enumerate(job[1]) if steps_in(part) > 0]
    if job[0] == 'seq':
        indices = indices[:1]
    return [(index,) + choice for index in indices for choice in choices_by_words(job[1][index])]


def remainder_by_words(job, choice):
    """11.2, not made tidy."""
    if isinstance(job, int):
        return EMPTY
    if job[0] in ('seq', 'par'):
        left = remainder_by_words(job[1][choice[0]], choice[1:])
        behind = (left,) + job[1][choice[0] + 1:]
        return (job[0], behind if job[0] == 'seq' else job[1][:choice[0]] + behind)
    left = remainder_by_words(job[2], choice[1:])
    return ({'repeat': 'seq', 'copies': 'par'}[job[0]], (left, (job[0], job[1] - 1, job[2])))


def rest_by_words(job, plan, k):
    """11.3, not made tidy; for jobs of any size."""
    if k == steps_in(job):
        return EMPTY
    if k == 0:
        return job
    if plan[0] == 'join':
        return rest_by_words(job, plan[2], k)
    if plan[0] == 'seq':
        for index, (part, one) in enumerate(zip(job[1], plan[1])):
            if k < steps_in(part):
                return ('seq', (rest_by_words(part, one, k),) + job[1][index + 1:])
            k -= steps_in(part)
    if plan[0] == 'par':
        done = steps_of_parts(job, plan, k)
        return ('par', tuple(rest_by_words(*row) for row in zip(job[1], plan[1], done)))
    n, inner = job[1:]
    if plan[0] == 'repeat':
        rounds, o = divmod(k, steps_in(inner))
        if o == 0:
            return ('repeat', n - rounds, inner)
        return ('seq', (rest_by_words(inner, plan[1], o), ('repeat', n - rounds - 1, inner)))
    before = 0
    for _, _, steps in chain_by_words(inner, plan[1]):
        if k < n * (before + steps):
            q, o = divmod(k - n * before, steps)
            w, y, z = [rest_by_words(inner, plan[1], count) for count in (before, before + o, before + steps)]
            middle = (y,) if o > 0 else ()
            return ('par', (('copies', q, z), *middle, ('copies', n - q - len(middle), w)))
        before += steps


def steps_of_parts(job, plan, k):
    """How many of the first k steps of the plan of a par each part has."""
    chains = [chain_by_words(part, one) for part, one in zip(job[1], plan[1])]
    at = [0] * len(chains)
    done = [0] * len(chains)
    for index in plan[2]:
        steps = min(k, chains[index][at[index]][2])
        at[index] += 1
        done[index] += steps
        k -= steps
    return done


def form(job, done=frozenset(), address=()):
    """A form of a small job without its done steps, which is equal for the same steps in the same order."""
    if isinstance(job, int):
        return None if address in done else job
    parts = list(job[1]) if job[0] in ('seq', 'par') else [job[2]] * job[1]
    word = 'seq' if job[0] in ('seq', 'repeat') else 'par'
    found = []
    for index, part in enumerate(parts):
        inner = form(part, done, address + (index,))
        if inner is not None:
            found += inner[1] if not isinstance(inner, int) and inner[0] == word else [inner]
    if word == 'par':
        found = sorted(found, key=repr)
    if len(found) < 2:
        return found[0] if found else None
    return (word, found)
