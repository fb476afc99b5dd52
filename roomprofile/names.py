"""What counts as a name."""

MAX_LETTERS = 8


def is_name(value):
    """Whether the value is a string of one to eight lowercase letters."""
    if not isinstance(value, str) or not 1 <= len(value) <= MAX_LETTERS:
        return False
    return all(["a" <= letter <= "z" for letter in value])
