"""Values that the tests share: the jobs of the document's examples, and wrong values of all kinds."""

A = ('seq', (5, -3))
B = ('seq', (3, -4, 2))
C = ('par', (A, B))
D = ('repeat', 10 ** 6, ('seq', (2, -3)))
P = ('copies', 2, ('seq', (6, -5, 4)))

SMALL = ('repeat', 400, 1)
LARGE = ('repeat', 401, 1)
HUGE = ('copies', 10 ** 15, ('repeat', 10 ** 15, ('par', (-7,))))
EMPTY_HUGE = ('repeat', 10 ** 30, ('copies', 10 ** 30, ('par', (('seq', ()), ('repeat', 0, 5)))))


def nested(kind, levels, core):
    """The core in so many further tuples ('seq', (..,)) or ('par', (..,))."""
    value = core
    for _ in range(levels):
        value = (kind, (value,))
    return value


def deep_tuple(levels):
    value = ()
    for _ in range(levels):
        value = (value,)
    return value


def wide_job():
    """A value that would have 400 ** 12 nodes if all of it were read."""
    value = 1
    for _ in range(12):
        value = ('seq', (value,) * 400)
    return value


# Values that are no job, no address, no state, no run, no valleys, no profile and no integer.
STRANGE = (
    None, True, False, '', 'seq', '0', [], {}, [5], {0: 0}, {'seq': (5,)}, ['seq', (5,)],
    ([],), ({},), (None,), (True,), (False,), ('',), ('seq',), (0, None), (0, True), (0, []),
    ((True,),), (([],),), (({},),), (((),),), ((None, None),), ((0, 0, 0),), [(0, 0)], [()], [(0,)],
    deep_tuple(199), 'x' * 1000, (None,) * 1000,
)

# Integers of up to 70 digits, which some functions take and others do not.
INTEGERS = (0, 1, -1, 10 ** 30, 10 ** 30 + 1, -10 ** 30 - 1, 10 ** 61 - 1, 10 ** 61, -10 ** 61, 10 ** 70 - 1)

TUPLES = ((), ((),), ((0,),), ((0, 0),), (0,), (0, 0), ((0, 0), (1, 0)), ((-1,),), (-1,), (10 ** 70 - 1,))

# Too wide to be copied or compared: only what stops early can refuse it.
WIDE = wide_job()

NO_JOBS = STRANGE + TUPLES + (
    10 ** 30 + 1, -10 ** 30 - 1, 10 ** 70 - 1,
    ('seq', 5), ('seq', None), ('seq', [5]), ('seq', (True,)), ('seq', (False,)), ('seq', (None,)), ('seq', ('5',)),
    ('seq', (5,), 1), ('seq', 1, 5), ('par', [5]), ('par', {}), ('par', 'ab'), ('par', (5, [5])), ('par', ((),)),
    ('seq', (('par', (10 ** 30 + 1,)),)), ['par', (5,)], ('Seq', (5,)), ('', (5,)), (('seq',), (5,)), ('hole',),
    ('use', 'work'), ('repeat',), ('repeat', 2), ('repeat', 2, 5, 5), ('repeat', 2, True), ('repeat', True, 5),
    ('repeat', False, 5), ('repeat', -1, 5), ('repeat', None, 5), ('repeat', '2', 5), ('repeat', (2,), 5),
    ('repeat', 10 ** 30 + 1, ('seq', ())), ('repeat', 2, [5]), ('repeat', 2, (5,)), ('repeat', 0, None),
    ('copies', -1, 5), ('copies', True, 5), ('copies', 10 ** 30 + 1, ('seq', ())), ('copies', 2), ('copies', 5, 2, 1),
    ['copies', 2, 5], ('copies', [2], 5), ('copies', 0, True), ('copies', 0, ('par', [])), ([], 2, 5), ({}, (5,)),
    ('par', (5,) * 400), ('par', (5,) * 401), ('seq', (('seq', ()),) * 400),
    nested('seq', 13, 5), nested('par', 12, ('seq', (5,))), nested('seq', 190, 5),
    ('repeat', 10 ** 30, ('seq', (1, 1))), ('copies', 10 ** 15 + 1, ('repeat', 10 ** 15, 0)),
    ('repeat', 0, ('repeat', 10 ** 30, ('seq', (0, 0)))), ('copies', 0, ('seq', (('copies', 10 ** 30, 1), 1))),
)

# Values that are no integer of at most 61 digits.
NO_NUMBERS = STRANGE + ((), (0,), (0, 0), 10 ** 61, -10 ** 61, 10 ** 70 - 1, 10 ** 5000, -10 ** 5000)
NUMBER_EDGES = (0, -1, 10 ** 61 - 1, -10 ** 61 + 1)
