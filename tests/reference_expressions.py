"""Expressions and machines, by the words of 14.1 to 14.3.

Nothing here uses the program.
"""

from tests.reference_progress import is_job_by_words

STARTS = {'add': 0, 'mul': 1, 'min': 996, 'max': 0}


def combine(operation, first, second):
    return {'add': (first + second) % 997, 'mul': first * second % 997, 'min': min(first, second), 'max': max(first, second)}[operation]


def value_by_words(expression):
    """14.1."""
    if expression[0] == 'load':
        return expression[1]
    if expression[0] == 'apply':
        values = [value_by_words(part) for part in expression[2]]
    else:
        value = value_by_words(expression[3])
        if expression[2] > 1000:
            return {'add': expression[2] * value % 997, 'mul': pow(value, expression[2], 997)}.get(expression[1], value)
        values = [value] * expression[2]
    found = values[0]
    for value in values[1:]:
        found = combine(expression[1], found, value)
    return found


def job_by_words(expression):
    """14.2."""
    size = expression[-1]
    if expression[0] == 'load':
        return size
    if expression[0] == 'apply':
        total = sum(part[-1] for part in expression[2])
        return ('seq', (('par', tuple(job_by_words(part) for part in expression[2])), size, -total))
    _, _, n, part, _ = expression
    if expression[0] == 'each':
        return ('seq', (('copies', n, job_by_words(part)), size, -n * part[-1]))
    return ('seq', (size, ('repeat', n, ('seq', (job_by_words(part), -part[-1])))))


def is_between(value, least, most):
    return value.__class__ is int and least <= value <= most


def has_form(value):
    if value.__class__ is not tuple or not value or value[0].__class__ is not str:
        return False
    if value[0] == 'load':
        return len(value) == 3 and is_between(value[1], 0, 996) and is_between(value[2], 0, 10 ** 12)
    if value[0] not in ('apply', 'each', 'fold') or len(value) != (4 if value[0] == 'apply' else 5):
        return False
    if value[1].__class__ is not str or value[1] not in STARTS or not is_between(value[-1], 0, 10 ** 12):
        return False
    if value[0] == 'apply':
        return value[2].__class__ is tuple and 1 <= len(value[2]) <= 400 and all(map(has_form, value[2]))
    return is_between(value[2], 1, 10 ** 30) and has_form(value[3])


def most_step(job):
    if isinstance(job, int):
        return abs(job)
    return max([most_step(part) for part in (job[1] if job[0] in ('seq', 'par') else job[2:])], default=0)


def is_expression_by_words(value):
    """14.1 and 14.2, for values that are not too wide to go through."""
    if not has_form(value):
        return False
    job = job_by_words(value)
    return is_job_by_words(job) and most_step(job) <= 10 ** 30


class PlainMachine:
    """The held pairs, changed step by step; steps are those of the job and done in an order that it allows."""

    def __init__(self, expression):
        self.held = []
        self.actions = {}
        self.accumulators = {}
        self.plan(expression, ())

    def plan(self, expression, around):
        size = expression[-1]
        result = (value_by_words(expression), size)
        if expression[0] == 'load':
            self.actions[around] = lambda: self.held.append(result)
            return
        if expression[0] == 'fold':
            self.plan_fold(expression, around)
            return
        parts = expression[2] if expression[0] == 'apply' else (expression[3],) * expression[2]
        for index, part in enumerate(parts):
            self.plan(part, around + (0, index))
        self.actions[around + (1,)] = lambda: self.held.append(result)
        self.actions[around + (2,)] = lambda: [self.held.remove((value_by_words(part), part[-1])) for part in parts]

    def plan_fold(self, expression, around):
        _, operation, n, part, size = expression
        given = (value_by_words(part), part[-1])

        def start():
            self.accumulators[around] = STARTS[operation]
            self.held.append((STARTS[operation], size))

        def combine_one():
            self.held.remove(given)
            self.held.remove((self.accumulators[around], size))
            self.accumulators[around] = combine(operation, self.accumulators[around], given[0])
            self.held.append((self.accumulators[around], size))

        self.actions[around + (0,)] = start
        for index in range(n):
            self.plan(part, around + (1, index, 0))
            self.actions[around + (1, index, 1)] = combine_one


def held_after(expression, order):
    machine = PlainMachine(expression)
    for address in order:
        machine.actions[address]()
    return tuple(sorted(machine.held))


def random_expression(source, levels=3, most=3, sizes=6):
    size = source.randint(0, sizes)
    if levels == 0 or source.random() < 0.25:
        return ('load', source.choice([0, 1, 2, 5, 996, source.randint(0, 996)]), size)
    kind = source.choice(['apply', 'apply', 'each', 'fold'])
    operation = source.choice(sorted(STARTS))
    if kind == 'apply':
        parts = tuple(random_expression(source, levels - 1, most, sizes) for _ in range(source.randint(1, most)))
        return (kind, operation, parts, size)
    return (kind, operation, source.randint(1, most), random_expression(source, levels - 1, most, sizes), size)
