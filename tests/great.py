"""Great jobs: of 400 nodes, nested as deep as can be, or with so many steps that none can go through them."""

import random

from tests.values import D, EMPTY_HUGE, HUGE, nested

MOST = 10 ** 30


def zigzag(many, source):
    """So many steps that go up and down by turns."""
    return tuple((1 if at % 2 == 0 else -1) * source.randint(1, 50) for at in range(many))


def falls(climbs):
    """A sequence that climbs by each of these and falls by one more."""
    return ('seq', tuple(step for climb in climbs for step in (climb, -climb - 1)))


def uneven_jobs():
    """Parallel parts and copies that go down in many turns, and have many valleys together."""
    climbs = range(4, 4 + 2 * 190, 2)
    parts = ('par', (falls(climbs[::3]), falls(climbs[1::3]), falls(climbs[2::3])))
    many = 10 ** 20
    copies = ('copies', many, falls(range(9, 9 + 190 * (many + 2), many + 2)))
    mixed = ('par', (('copies', 3, falls(range(5, 105, 5))), ('repeat', 4, falls(range(3, 83, 4))), falls(range(7, 200, 7)), 5, -8))
    return (parts, copies, mixed, ('repeat', many, parts), ('seq', (5, mixed, -7)), ('copies', many, mixed))


def ladder(levels):
    """A job nested 13 deep at most, of rounds and copies of both directions."""
    job = ('seq', (4, -6, 3))
    for level in range(levels):
        kind = ('repeat', 'par', 'copies', 'seq')[level % 4]
        job = (kind, (job, 2 - level)) if kind in ('par', 'seq') else (kind, 10 ** 4 + level, job)
    return job


def great_jobs():
    source = random.Random(61)
    zigzags = [('seq', zigzag(399, source)) for _ in range(3)]
    wide = [('par', tuple(('seq', zigzag(source.choice([2, 3, 4]), source)) for _ in range(78))) for _ in range(3)]
    many = tuple((source.choice(['repeat', 'copies']), source.randint(0, 10 ** 20), ('seq', zigzag(3, source)))
                 for _ in range(79))
    return (
        *uneven_jobs(), D, HUGE, EMPTY_HUGE, *zigzags, *wide, ('par', many), ('seq', many), ladder(11),
        ('par', tuple(range(-199, 200))), ('repeat', MOST, -1), ('copies', MOST, MOST), ('repeat', 0, HUGE),
        ('copies', 10 ** 15, ('repeat', 10 ** 14, ('seq', (6, -5, 4)))),
        ('repeat', 10 ** 15, ('copies', 10 ** 14, ('seq', (6, -5, -4)))),
        ('repeat', 10 ** 9, ('par', (('copies', 10 ** 9, ('seq', (3, -4))), ('repeat', 10 ** 9, ('seq', (-3, 4)))))),
        nested('par', 12, 5), nested('seq', 11, ('repeat', 3, -2)),
        ('seq', (('copies', 2, ('par', (('seq', zigzag(180, source)), ('seq', zigzag(180, source))))), *zigzag(30, source))),
        ('par', (('repeat', 10 ** 28, ('seq', (5, -5))), ('repeat', 0, HUGE), ('copies', 10 ** 28, ('seq', (7, -9, 2))))),
    )


GREAT_JOBS = great_jobs()
