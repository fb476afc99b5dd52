"""What counts as a tuple that begins with a word, as plans, floors and barriers do."""


def begins_with(value, word, length):
    """Whether the value is a tuple of this length that begins with the word."""
    return isinstance(value, tuple) and len(value) == length and value[0] == word
