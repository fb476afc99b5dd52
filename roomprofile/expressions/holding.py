"""What is held at a moment of an evaluation."""

from roomprofile.expressions.expressions import found_value, repeated_value


def held_pairs(expression, around, done):
    """The held pairs (value, size) of the expression whose job has these indices around it.

    `done` contains the addresses of the done steps of the whole job.
    """
    if expression[0] == "load":
        return [(expression[1], expression[2])] if around in done else []
    if expression[0] == "fold":
        return _held_by_fold(expression, around, done)
    result = [(found_value(expression), expression[-1])] if around + (1,) in done else []
    if around + (2,) in done:
        return result
    parts = expression[2] if expression[0] == "apply" else [expression[3]] * expression[2]
    pairs = []
    for index, part in enumerate(parts):
        pairs.extend(held_pairs(part, around + (0, index), done))
    return pairs + result


def _held_by_fold(expression, around, done):
    _, operation, _, part, size = expression
    if around + (0,) not in done:
        return []
    rounds = 0
    while around + (1, rounds, 1) in done:
        rounds += 1
    accumulator = (repeated_value(operation, rounds, found_value(part)), size)
    # Behind the last round no step is done, and so nothing is held.
    return [accumulator] + held_pairs(part, around + (1, rounds, 0), done)
