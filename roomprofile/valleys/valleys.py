"""Valleys: pairs (capacity, usage), where a greater capacity leads to a lower usage."""

from roomprofile.errors import InvalidNumber, InvalidValleys, TooMany
from roomprofile.integers import check_number, is_integer
from roomprofile.valleys.joint import Descent, joint_pairs

MAX_VALLEYS = 400
MAX_JOINED = 400


def is_valleys(value):
    """Whether the value is valleys."""
    if not isinstance(value, tuple) or not 1 <= len(value) <= MAX_VALLEYS:
        return False
    if not all([_is_pair(pair) for pair in value]):
        return False
    return all([left[0] < right[0] and left[1] > right[1] for left, right in zip(value, value[1:])])


def is_start_valleys(value):
    """Whether the value is valleys that begin at the capacity 0 with a usage of at most 0."""
    return is_valleys(value) and value[0][0] == 0 and value[0][1] <= 0


def valley_at(valleys, capacity):
    """The value of the valleys at the capacity, or None below the first one."""
    _check_valleys(valleys)
    check_number(capacity)
    return value_at(valleys, capacity)


def shifted(valleys, *, capacity=0, usage=0):
    """The valleys with these numbers added to all capacities and to all usages."""
    _check_valleys(valleys)
    check_number(capacity)
    check_number(usage)
    return moved(valleys, capacity, usage)


def from_capacity(valleys, capacity):
    """The valleys that begin at the capacity and have the same values from there on."""
    _check_valleys(valleys)
    check_number(capacity)
    if capacity < valleys[0][0]:
        raise InvalidNumber(capacity)
    later = [pair for pair in valleys if pair[0] > capacity]
    return ((capacity, value_at(valleys, capacity)), *later)


def least_of_two(first, second):
    """The valleys with the smaller one of the values that the two have at each capacity."""
    _check_valleys(first)
    _check_valleys(second)
    return checked_length(least_usages(first + second))


def joint_lows(parts, capacity):
    """The joint lows of the start valleys at the capacity."""
    _check_parts(parts)
    check_number(capacity)
    if capacity < 0:
        raise InvalidNumber(capacity)
    descent = Descent(parts)
    descent.go_down(capacity)
    return descent.lows()


def joint_valleys(parts):
    """The valleys of the sums of the joint lows of the start valleys."""
    _check_parts(parts)
    return checked_length(joint_pairs(parts))


def least_usages(pairs):
    """The pairs that are left where each pair offers its usage from its capacity on.

    They descend like valleys, and there may be any number of them.
    """
    rows = []
    for capacity, low in sorted(pairs):
        if not rows or low < rows[-1][1]:
            rows.append((capacity, low))
    return tuple(rows)


def value_at(pairs, capacity):
    """The value of valleys of any length at the capacity, or None below the first one."""
    value = None
    for least, low in pairs:
        if least <= capacity:
            value = low
    return value


def moved(pairs, capacity, low):
    """The pairs with these integers, of any size, added to all capacities and to all usages."""
    return tuple([(pair[0] + capacity, pair[1] + low) for pair in pairs])


def checked_length(pairs):
    """The pairs. Raises TooMany if they are too many for valleys."""
    if len(pairs) > MAX_VALLEYS:
        raise TooMany(MAX_VALLEYS)
    return pairs


def _is_pair(value):
    return isinstance(value, tuple) and len(value) == 2 and is_integer(value[0]) and is_integer(value[1])


def _check_valleys(value):
    if not is_valleys(value):
        raise InvalidValleys("these are not valleys")


def _check_parts(parts):
    if not isinstance(parts, tuple) or len(parts) > MAX_JOINED:
        raise InvalidValleys("this is not a tuple of at most 400 start valleys")
    for part in parts:
        if not is_start_valleys(part):
            raise InvalidValleys("a part is not start valleys")
