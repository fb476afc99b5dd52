"""Great jobs: of 400 nodes, nested as deep as can be, or with so many steps that none can go through them."""

import random

from tests.reference import normal_steps, random_profile, reversed_profile
from tests.values import D, EMPTY_HUGE, HUGE, nested

MOST = 10 ** 30


def zigzag(many, source):
    """So many steps that go up and down by turns."""
    return tuple((1 if at % 2 == 0 else -1) * source.randint(1, 50) for at in range(many))


def valleys(source, longest):
    """A sequence that goes down and up in several valleys."""
    profile = random_profile(source, longest)
    return ('seq', normal_steps(source.choice([profile, reversed_profile(profile)])))


def uneven_parts(source):
    """Parallel parts of several valleys each, many rounds and many copies of such ones among them."""
    rounds = tuple(('repeat', source.randint(0, 10 ** 9), valleys(source, 6)) for _ in range(4))
    copies = tuple(('copies', source.randint(0, 10 ** 9), valleys(source, 6)) for _ in range(4))
    return ('par', rounds + copies + tuple(valleys(source, 8) for _ in range(8)))


def ladder(levels):
    """A job nested 13 deep at most, of rounds and copies of both directions."""
    job = ('seq', (4, -6, 3))
    for level in range(levels):
        kind = ('repeat', 'par', 'copies', 'seq')[level % 4]
        job = (kind, (job, 2 - level)) if kind in ('par', 'seq') else (kind, 10 ** 4 + level, job)
    return job


def great_jobs():
    source = random.Random(61)
    zigzags = [('seq', zigzag(399, source)) for _ in range(3)]
    wide = [('par', tuple(('seq', zigzag(source.choice([2, 3, 4]), source)) for _ in range(78))) for _ in range(3)]
    many = tuple((source.choice(['repeat', 'copies']), source.randint(0, 10 ** 20), ('seq', zigzag(3, source)))
                 for _ in range(79))
    uneven = [uneven_parts(source) for _ in range(4)]
    return (
        *uneven, ('copies', 10 ** 18, uneven[0]), ('repeat', 10 ** 18, uneven[1]), ('seq', (5, uneven[2], -7)),
        D, HUGE, EMPTY_HUGE, *zigzags, *wide, ('par', many), ('seq', many), ladder(11),
        ('par', tuple(range(-199, 200))), ('repeat', MOST, -1), ('copies', MOST, MOST), ('repeat', 0, HUGE),
        ('copies', 10 ** 15, ('repeat', 10 ** 14, ('seq', (6, -5, 4)))),
        ('repeat', 10 ** 15, ('copies', 10 ** 14, ('seq', (6, -5, -4)))),
        ('repeat', 10 ** 9, ('par', (('copies', 10 ** 9, ('seq', (3, -4))), ('repeat', 10 ** 9, ('seq', (-3, 4)))))),
        nested('par', 12, 5), nested('seq', 11, ('repeat', 3, -2)),
        ('seq', (('copies', 2, ('par', (('seq', zigzag(180, source)), ('seq', zigzag(180, source))))), *zigzag(30, source))),
        ('par', (('repeat', 10 ** 28, ('seq', (5, -5))), ('repeat', 0, HUGE), ('copies', 10 ** 28, ('seq', (7, -9, 2))))),
    )


GREAT_JOBS = great_jobs()
