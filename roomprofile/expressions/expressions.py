"""Expressions: their values, their sizes and their jobs."""

from roomprofile.errors import InvalidExpression
from roomprofile.integers import is_within
from roomprofile.jobs.jobs import MAX_COUNT, MAX_DEPTH, MAX_NODES, is_job
from roomprofile.tuples import begins_with

MODULUS = 997
MAX_SIZE = 10 ** 12
MAX_OPERANDS = 400

# The values that change no other value under the operations.
NEUTRAL = {"add": 0, "mul": 1, "min": 996, "max": 0}


def is_expression(value):
    """Whether the value is an expression."""
    return _count(value, MAX_NODES, MAX_DEPTH) is not None and is_job(built_job(value))


def value_of(expression):
    """The value of the expression."""
    check_expression(expression)
    return found_value(expression)


def size_of(expression):
    """The size of the value of the expression."""
    check_expression(expression)
    return expression[-1]


def job_of(expression):
    """The job of the expression."""
    check_expression(expression)
    return built_job(expression)


def check_expression(value):
    """Raises InvalidExpression unless the value is an expression."""
    if not is_expression(value):
        raise InvalidExpression("this is not an expression")


def found_value(expression):
    """The value of what is known to be an expression."""
    if expression[0] == "load":
        return expression[1]
    if expression[0] != "apply":
        return repeated_value(expression[1], expression[2], found_value(expression[3]))
    value = NEUTRAL[expression[1]]
    for part in expression[2]:
        value = _combined(expression[1], value, found_value(part))
    return value


def repeated_value(operation, times, value):
    """The operation on so many equal values, and on the value that an accumulator starts with."""
    if times == 0:
        return NEUTRAL[operation]
    if operation == "add":
        return times * value % MODULUS
    return _power(value, times) if operation == "mul" else value


def built_job(expression):
    """The job of what has the form of an expression; it may exceed the limits of a job."""
    if expression[0] == "load":
        return expression[2]
    size = expression[-1]
    if expression[0] == "apply":
        parts = expression[2]
        jobs = tuple([built_job(part) for part in parts])
        return ("seq", (("par", jobs), size, -sum([part[-1] for part in parts])))
    _, _, n, part, _ = expression
    if expression[0] == "each":
        return ("seq", (("copies", n, built_job(part)), size, -n * part[-1]))
    return ("seq", (size, ("repeat", n, ("seq", (built_job(part), -part[-1])))))


def _power(value, times):
    result = 1
    factor = value
    left = times
    while left > 0:
        if left % 2 == 1:
            result = result * factor % MODULUS
        factor = factor * factor % MODULUS
        left //= 2
    return result


def _combined(operation, first, second):
    if operation == "add":
        return (first + second) % MODULUS
    if operation == "mul":
        return first * second % MODULUS
    return min(first, second) if operation == "min" else max(first, second)


def _count(value, room, levels):
    """How many expressions there are in what has the form of an expression, or None for any other value.

    Each of them is at least one node and one level of the job. It goes no further than so many of them,
    so that a value of any size is refused soon.
    """
    if room < 1 or levels < 1:
        return None
    if begins_with(value, "load", 3):
        return 1 if is_within(value[1], 0, MODULUS - 1) and _is_size(value[2]) else None
    if begins_with(value, "apply", 4):
        _, operation, parts, size = value
        good = isinstance(parts, tuple) and 1 <= len(parts) <= MAX_OPERANDS
    elif begins_with(value, "each", 5) or begins_with(value, "fold", 5):
        _, operation, n, part, size = value
        good = is_within(n, 1, MAX_COUNT)
        parts = (part,)
    else:
        return None
    if not good or not _is_operation(operation) or not _is_size(size):
        return None
    return _count_with_parts(parts, room, levels)


def _count_with_parts(parts, room, levels):
    many = 1
    for part in parts:
        inner = _count(part, room - many, levels - 1)
        if inner is None:
            return None
        many += inner
    return many


def _is_operation(value):
    return isinstance(value, str) and value in NEUTRAL


def _is_size(value):
    return is_within(value, 0, MAX_SIZE)
