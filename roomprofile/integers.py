"""What counts as an integer."""

from roomprofile.errors import InvalidNumber

NUMBER_END = 10 ** 61


def is_integer(value):
    """Whether the value is an integer; True and False are none."""
    return isinstance(value, int) and not isinstance(value, bool)


def is_within(value, least, greatest):
    """Whether the value is an integer from the least one to the greatest one."""
    return is_integer(value) and least <= value <= greatest


def is_short_integer(value):
    """Whether the value is an integer of at most 61 digits."""
    return is_integer(value) and -NUMBER_END < value < NUMBER_END


def check_number(value):
    """Raises InvalidNumber unless the value is an integer of at most 61 digits."""
    if not is_short_integer(value):
        raise InvalidNumber(value)


def check_within(value, least, greatest):
    """Raises InvalidNumber unless the value is an integer from the least one to the greatest one."""
    if not is_within(value, least, greatest):
        raise InvalidNumber(value)
