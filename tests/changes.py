"""Values with one part changed, at any depth."""


def changes_of(value, words=('seq', 'step')):
    """All values that differ from a nested tuple in one place: a part that is changed, missing, added or doubled."""
    yield from replacements(value, words)
    if isinstance(value, tuple):
        for at, part in enumerate(value):
            for other in changes_of(part, words):
                yield value[:at] + (other,) + value[at + 1:]


def replacements(value, words):
    """Values that stand in the place of this one."""
    yield from (None, [], (), {})
    if isinstance(value, tuple):
        yield from (list(value), value + (0,), value + ((),), (value,), value[::-1])
        for at in range(len(value)):
            yield value[:at] + value[at + 1:]
            yield value[:at + 1] + value[at:]
        for at in range(1, len(value)):
            yield value[:at - 1] + (value[at], value[at - 1]) + value[at + 1:]
    elif isinstance(value, str):
        yield from (value + 's', value.upper(), 0)
        yield from words
    elif isinstance(value, bool) or value is None:
        yield from (True, False, 0, 1)
    else:
        yield from (value + 1, value - 1, -value, 0, 1, str(value), value + 10 ** 30, 10 ** 70 - 1)
        if value in (0, 1):
            yield value == 1
