"""Plans, their chains and their runs, part by part by the words of 6.2 and 7.1.

Nothing here uses the program.
"""

from tests.reference import staircase, steps_of

WRONG = None


def whole(segments):
    """The net, the peak and the steps of a chain (6.1)."""
    usages = [0]
    tops = [0]
    for net, peak, _ in segments:
        tops.append(usages[-1] + peak)
        usages.append(usages[-1] + net)
    return (usages[-1], max(tops), sum(segment[2] for segment in segments))


def is_number(value):
    return value.__class__ is int


def is_plan_tuple(value, word, length):
    return value.__class__ is tuple and len(value) == length and value[0].__class__ is str and value[0] == word


def chain_by_words(job, plan, joined=False):
    """The chain of the plan of a job (6.2), or WRONG if it is not one."""
    if is_plan_tuple(plan, 'join', 3):
        found = WRONG if joined else chain_of_join(job, plan[1], plan[2])
    elif isinstance(job, int):
        found = [(job, max(0, job), 1)] if is_plan_tuple(plan, 'step', 1) else WRONG
    elif job[0] in ('seq', 'par'):
        good = is_plan_tuple(plan, job[0], 2 if job[0] == 'seq' else 3)
        found = chain_of_parts(job, plan) if good else WRONG
    else:
        found = chain_of_many(job, plan) if is_plan_tuple(plan, job[0], 2) else WRONG
    return WRONG if found is WRONG or len(found) > 2000 else found


def chain_of_join(job, sizes, plan):
    inner = chain_by_words(job, plan, joined=True)
    if inner is WRONG or sizes.__class__ is not tuple or not all(is_number(size) and size > 0 for size in sizes):
        return WRONG
    if sum(sizes) != len(inner):
        return WRONG
    found = []
    for size in sizes:
        found.append(whole(inner[:size]))
        inner = inner[size:]
    return found


def chain_of_parts(job, plan):
    if plan[1].__class__ is not tuple or len(plan[1]) != len(job[1]):
        return WRONG
    inner = [chain_by_words(part, one) for part, one in zip(job[1], plan[1])]
    if WRONG in inner:
        return WRONG
    if job[0] == 'seq':
        return sum(inner, [])
    order = plan[2]
    if order.__class__ is not tuple or not all(is_number(index) for index in order):
        return WRONG
    if sorted(order) != sorted(index for index, segments in enumerate(inner) for _ in segments):
        return WRONG
    return [inner[index][order[:at].count(index)] for at, index in enumerate(order)]


def chain_of_many(job, plan):
    inner = chain_by_words(job[2], plan[1])
    n = job[1]
    if inner is WRONG:
        return WRONG
    if n == 0 or not inner:
        return []
    if job[0] == 'copies':
        return [(n * net, peak + max(0, (n - 1) * net), n * steps) for net, peak, steps in inner]
    if n <= 2:
        return inner * n
    net, peak, steps = whole(inner)
    return inner + [((n - 2) * net, peak + max(0, (n - 3) * net), (n - 2) * steps)] + inner


def stretches_by_words(job, plan):
    """The stretches of the run of a plan of a job of a few steps (7.1), as lists of addresses."""
    if plan[0] == 'join':
        inner = stretches_by_words(job, plan[2])
        found = []
        for size in plan[1]:
            found.append(sum(inner[:size], []))
            inner = inner[size:]
        return found
    if plan[0] == 'step':
        return [[()]]
    if plan[0] in ('seq', 'par'):
        parts = [below(index, stretches_by_words(part, one)) for index, (part, one) in enumerate(zip(job[1], plan[1]))]
        if plan[0] == 'seq':
            return sum(parts, [])
        return [parts[index][plan[2][:at].count(index)] for at, index in enumerate(plan[2])]
    if job[1] == 0 or not steps_of(job):
        return []
    inner = stretches_by_words(job[2], plan[1])
    rounds = [below(index, inner) for index in range(job[1])]
    if plan[0] == 'copies':
        return [sum(stretches, []) for stretches in zip(*rounds)]
    if job[1] <= 2:
        return sum(rounds, [])
    return rounds[0] + [sum(sum(rounds[1:-1], []), [])] + rounds[-1]


def below(index, stretches):
    return [[(index,) + address for address in stretch] for stretch in stretches]


def profile_by_words(segments):
    """The profile of a chain (6.1), from what is said of its boundaries."""
    usages = [0]
    for net, _, _ in segments:
        usages.append(usages[-1] + net)
    tops = [usage + segment[1] for usage, segment in zip(usages, segments)]
    many = len(segments)
    before = [max([0] + tops[:at]) for at in range(many + 1)]
    behind = [max([usages[-1]] + tops[at:]) for at in range(many + 1)]
    return (usages[-1], before[-1], staircase(list(zip(before, usages)), 0), staircase(list(zip(behind, usages)), usages[-1]))


def random_plan(source, job, joins=0.4):
    """A plan of the job, with joins and orders that are drawn."""
    plan = random_plain_plan(source, job, joins)
    if source.random() >= joins:
        return plan
    left = len(chain_by_words(job, plan))
    sizes = []
    while left > 0:
        sizes.append(source.randint(1, left))
        left -= sizes[-1]
    return ('join', tuple(sizes), plan)


def random_plain_plan(source, job, joins):
    if isinstance(job, int):
        return ('step',)
    if job[0] in ('repeat', 'copies'):
        return (job[0], random_plan(source, job[2], joins))
    plans = tuple(random_plan(source, part, joins) for part in job[1])
    if job[0] == 'seq':
        return ('seq', plans)
    order = [index for index, (part, plan) in enumerate(zip(job[1], plans)) for _ in chain_by_words(part, plan)]
    source.shuffle(order)
    return ('par', plans, tuple(order))
