"""Promises 8.1 to 8.4: which values are floors and barriers."""

import random

from roomprofile.barriers.judge import is_barrier, is_floor
from roomprofile.errors import InvalidJob
from tests.changes import changes_of
from tests.checks import Checks
from tests.reference import Order, profile_of, random_jobs, uneven_jobs, value_at
from tests.reference_barriers import (
    is_barrier_by_words, is_floor_by_words, lowest_of, mirror_of, net_of, random_barrier, random_floor,
)
from tests.values import A, B, C, D, EMPTY_HUGE, HUGE, INTEGERS, NO_JOBS, NO_NUMBERS, NUMBER_EDGES, P, STRANGE, TUPLES, WIDE
from tests.values import deep_tuple

LOWEST = ('lowest',)
STEP = ('step',)
NET = ('net',)
WORDS = ('lowest', 'step', 'seq', 'par', 'round', 'first', 'copies', 'net', 'mirror', 'part', 'front', 'high')
NO_CERTIFICATES = STRANGE + INTEGERS + TUPLES + (
    'lowest', 'net', ['lowest'], ['net'], ('Lowest',), ('net', ()), ('lowest', None), ('step', 'step'), (LOWEST,), (NET,),
    ('mirror',), ('mirror', None), ('seq', (), None), deep_tuple(200),
)


class ExamplesTest(Checks):
    def test_floors(self):
        self.assert_yes([is_floor(B, 2, 0, ('seq', (STEP,), NET))])
        self.assert_no([is_floor(B, 3, 0, ('seq', (STEP,), NET))])

    def test_barriers(self):
        self.assert_yes([is_barrier(C, 3, ('high', 0, ('part', 0, NET)))])
        self.assert_no([is_barrier(C, 4, ('high', 0, ('part', 0, NET)))])
        self.assert_yes([is_barrier(('copies', 2, ('seq', (2, -3))), 1, ('front', 0, ('seq', (STEP,), NET)))])


class FloorRowsTest(Checks):
    """Each row of the table of 8.2, fulfilled, and with each of its conditions broken alone."""

    def test_capacity_and_usage(self):
        for job, floor in ((5, LOWEST), (5, STEP), (A, LOWEST), (('seq', ()), LOWEST), (('par', ()), ('par', (), ()))):
            self.assert_yes([is_floor(job, 0, 0, floor), is_floor(job, 9, -9, floor)])
            self.assert_no([is_floor(job, -1, 0, floor), is_floor(job, 0, 1, floor), is_floor(job, -1, 1, floor)])
            self.assert_no([is_floor(job, -10 ** 60, -10 ** 60, floor)])

    def test_lowest(self):
        for job, low in ((-4, -4), (5, 0), (B, -1), (C, -1), (D, -10 ** 6), (P, 0), (EMPTY_HUGE, 0), (HUGE, -7 * 10 ** 30)):
            self.assert_yes([is_floor(job, 0, low, LOWEST), is_floor(job, 10 ** 60, low - 1, LOWEST)])
            self.assert_no([is_floor(job, 0, low + 1, LOWEST)])

    def test_step(self):
        self.assert_yes([is_floor(5, 4, 0, STEP), is_floor(5, 5, 0, STEP), is_floor(-4, 0, -4, STEP), is_floor(0, 0, 0, STEP)])
        self.assert_no([is_floor(-4, 0, -3, STEP), is_floor(-4, 10, 0, STEP)])
        self.assert_no([is_floor(('seq', (5,)), 4, 0, STEP), is_floor(('par', (5,)), 4, 0, STEP)])
        self.assert_no([is_floor(('repeat', 1, 5), 4, 0, STEP), is_floor(('copies', 1, 5), 4, 0, STEP)])

    def test_seq(self):
        job = ('seq', (3, -4, 5, -9))
        self.assert_yes([
            is_floor(job, 2, 0, ('seq', (STEP,), NET)),
            is_floor(job, 3, -1, ('seq', (STEP, STEP, STEP), NET)),
            is_floor(job, 3, -1, ('seq', (LOWEST, LOWEST, LOWEST), NET)),
            is_floor(job, 4, -5, ('seq', (STEP, STEP, STEP, STEP), None)),
        ])
        self.assert_no([
            is_floor(job, 3, -1, ('seq', (STEP, STEP, STEP, STEP), None)),
            is_floor(job, 3, 0, ('seq', (STEP, STEP, STEP), NET)), is_floor(job, 4, -1, ('seq', (STEP, STEP, STEP), NET)),
            is_floor(job, 3, -1, ('seq', (STEP, STEP, STEP), None)), is_floor(job, 4, -5, ('seq', (STEP,) * 4, NET)),
            is_floor(job, 4, -4, ('seq', (STEP,) * 4, None)), is_floor(job, 2, 0, ('seq', (), NET)),
            is_floor(job, 2, 0, ('seq', (), None)), is_floor(job, 2, 0, ('seq', (STEP,), None)),
            is_floor(job, 2, 0, ('seq', [STEP], NET)), is_floor(job, 4, -5, ('seq', (STEP,) * 5, None)),
            is_floor(job, 2, 0, ('seq', (STEP,))), is_floor(job, 2, 0, ('seq', (STEP,), NET, None)),
            is_floor(job, 2, 0, ('seq', (NET,), NET)), is_floor(job, 2, 0, ('seq', (STEP,), STEP)),
            is_floor(job, 2, 0, ('par', (STEP,), NET)), is_floor(('par', (3, -4)), 2, 0, ('seq', (STEP,), NET)),
            is_floor(('seq', (-4, 3)), 0, -2, ('seq', (LOWEST, LOWEST), None)),
        ])
        # The last floor is for 1 - (-4) and -4 - (-4): its part goes no lower, and all parts have floors.
        self.assert_yes([is_floor(('seq', (-4, 3)), 0, -4, ('seq', (LOWEST, LOWEST), None))])
        # The second floor is for a usage above 0, or for a capacity below 0.
        self.assert_no([is_floor(('seq', (-4, 3)), 0, -3, ('seq', (LOWEST, LOWEST), None))])
        self.assert_no([is_floor(('seq', (4, 3)), 3, 0, ('seq', (LOWEST, LOWEST), None))])
        self.assert_yes([is_floor(('seq', (4, 3)), 4, 0, ('seq', (LOWEST, LOWEST), None))])

    def test_par(self):
        job = ('par', (('seq', (2, -5)), ('seq', (4, -6))))
        stuck = ('seq', (STEP,), NET)
        self.assert_yes([
            is_floor(job, 1, 0, ('par', (0, 0), (stuck, stuck))),
            is_floor(job, 1, -3, ('par', (0, 0), (stuck, stuck))),
            is_floor(job, 2, -5, ('par', (-3, -2), (LOWEST, LOWEST))),
        ])
        self.assert_no([
            is_floor(job, 2, 0, ('par', (0, 0), (stuck, stuck))), is_floor(job, 2, -4, ('par', (-3, -2), (LOWEST, LOWEST))),
            is_floor(job, 2, -5, ('par', (-3, -1), (LOWEST, LOWEST))), is_floor(job, 2, -5, ('par', (-4, 1), (LOWEST, LOWEST))),
            is_floor(job, 1, 0, ('par', [0, 0], (stuck, stuck))), is_floor(job, 1, 0, ('par', (0, 0), [stuck, stuck])),
            is_floor(job, 1, 0, ('par', (0,), (stuck, stuck))), is_floor(job, 1, 0, ('par', (0, 0), (stuck,))),
            is_floor(job, 1, 0, ('par', (0, 0, 0), (stuck, stuck))), is_floor(job, 1, 0, ('par', (0, 0), (stuck,) * 3)),
            is_floor(job, 1, 0, ('par', (False, 0), (stuck, stuck))), is_floor(job, 1, 0, ('par', (0, None), (stuck, stuck))),
            is_floor(job, 1, 0, ('par', (0, 0))), is_floor(job, 1, 0, ('front', (0, 0), (stuck, stuck))),
        ])
        # With the low -1 of the second part the first one has a capacity of 2, and its first step can be done.
        self.assert_no([is_floor(job, 1, -1, ('par', (0, -1), (stuck, stuck)))])
        self.assert_yes([is_floor(job, 0, -1, ('par', (0, -1), (stuck, stuck)))])

    def test_round(self):
        up = ('repeat', 4, ('seq', (3, -4, 2)))
        down = ('repeat', 4, ('seq', (3, -4)))
        inner = ('seq', (LOWEST, LOWEST, LOWEST), None)
        self.assert_yes([is_floor(up, 3, -1, ('round', inner)), is_floor(up, 0, -1, ('round', LOWEST))])
        self.assert_yes([is_floor(down, 0, -4, ('round', ('seq', (LOWEST, LOWEST), None)))])
        self.assert_no([
            is_floor(up, 3, 0, ('round', inner)), is_floor(down, 0, -3, ('round', ('seq', (LOWEST, LOWEST), None))),
            is_floor(down, 0, -3, ('round', LOWEST)), is_floor(down, 0, -1, ('round', LOWEST)), is_floor(up, -1, -1, ('round', LOWEST)),
            is_floor(('repeat', 0, 5), 0, 0, ('round', LOWEST)), is_floor(('copies', 4, 5), 0, 0, ('round', LOWEST)),
            is_floor(up, 3, -1, ('round', inner, None)), is_floor(up, 3, -1, ('round',)), is_floor(up, 2, 0, ('round', NET)),
        ])
        # The floor of the inner job is for 0 - 3 * -1.
        self.assert_yes([is_floor(down, 0, -4, ('round', LOWEST))])
        blocked = ('seq', (STEP,), NET)
        self.assert_no([is_floor(down, 0, -3, ('round', blocked))])
        self.assert_yes([is_floor(('repeat', 1, ('seq', (3, -4))), 2, 0, ('round', blocked))])
        self.assert_yes([is_floor(up, 2, 0, ('round', blocked))])

    def test_first(self):
        down = ('repeat', 10 ** 29, ('seq', (-1, 3, -4)))
        floor = ('seq', (STEP, STEP), NET)
        barrier = ('part', 1, NET)
        self.assert_yes([is_floor(down, 1, -1, ('first', floor, barrier)), is_floor(down, 1, -2, ('first', floor, barrier))])
        self.assert_no([
            is_floor(down, 2, -1, ('first', floor, barrier)), is_floor(down, 2, -2, ('first', LOWEST, barrier)),
            is_floor(down, 1, 0, ('first', floor, barrier)), is_floor(down, 1, -1, ('first', LOWEST, barrier)),
            is_floor(down, 1, -1, ('first', floor, NET)), is_floor(down, 1, -1, ('first', floor, None)),
            is_floor(down, 1, -1, ('first', floor)), is_floor(down, -1, -1, ('first', floor, barrier)),
            is_floor(('repeat', 0, down[2]), 1, -1, ('first', floor, barrier)),
            is_floor(('copies', 3, down[2]), 1, -1, ('first', floor, barrier)),
        ])
        up = ('repeat', 5, ('seq', (-1, 3)))
        self.assert_yes([is_floor(up, 1, -1, ('first', LOWEST, NET)), is_floor(up, 1, -1, ('first', LOWEST, ('part', 1, NET)))])
        self.assert_no([is_floor(up, 2, -1, ('first', LOWEST, NET))])

    def test_copies(self):
        n = 10 ** 29
        floor = ('seq', (STEP, STEP), NET)
        small = ('copies', 2, ('seq', (-1, 3, -4)))
        self.assert_yes([is_floor(small, 0, -2, ('copies', -1, floor)), is_floor(small, 0, -3, ('copies', -1, floor))])
        self.assert_no([
            is_floor(small, 1, -2, ('copies', -1, floor)), is_floor(small, 0, -1, ('copies', -1, floor)),
            is_floor(small, 0, -2, ('copies', 0, floor)), is_floor(small, 0, -4, ('copies', -2, floor)),
            is_floor(small, 0, 0, ('copies', 1, LOWEST)), is_floor(('copies', 2, 5), 9, 0, ('copies', 1, LOWEST)),
            is_floor(small, 0, -2, ('copies', -1)), is_floor(small, 0, -2, ('copies', -1, floor, None)),
            is_floor(small, 0, -2, ('copies', '-1', floor)), is_floor(('copies', 2, 5), 0, 0, ('copies', False, LOWEST)),
            is_floor(('copies', 0, 5), 0, 0, ('copies', 0, LOWEST)), is_floor(('repeat', 2, 5), 0, 0, ('copies', 0, LOWEST)),
            is_floor(small, 0, -2, ('front', -1, floor)), is_floor(small, -1, -2, ('copies', -1, floor)),
        ])
        great = ('copies', n, ('seq', (3, -3, -1)))
        self.assert_yes([is_floor(great, 2, 0, ('copies', 0, ('seq', (STEP,), NET)))])
        self.assert_yes([is_floor(great, 3, -n, ('copies', -1, LOWEST))])
        self.assert_no([is_floor(great, 3, 1 - n, ('copies', -1, LOWEST)), is_floor(great, 3, 0, ('copies', 0, ('seq', (STEP,), NET)))])


class BarrierRowsTest(Checks):
    """Each row of the table of 8.3, fulfilled, and with each of its conditions broken alone."""

    def test_net(self):
        for job in (5, -5, 0, A, B, C, D, P, HUGE, EMPTY_HUGE, ('seq', ())):
            edge = max(0, net_of(job))
            self.assert_yes([is_barrier(job, edge - 1, NET), is_barrier(job, -1, NET), is_barrier(job, 1 - 10 ** 61, NET)])
            self.assert_no([is_barrier(job, edge, NET), is_barrier(job, 10 ** 61 - 1, NET)])

    def test_mirror(self):
        self.assert_yes([is_barrier(5, 4, ('mirror', NET)), is_barrier(5, -1, ('mirror', NET)), is_barrier(-5, -1, ('mirror', NET))])
        self.assert_no([is_barrier(5, 5, ('mirror', NET)), is_barrier(-5, 0, ('mirror', NET))])
        self.assert_no([is_barrier(5, 4, ('mirror', ('mirror', NET))), is_barrier(5, 4, ('mirror',))])
        self.assert_no([is_barrier(5, 4, ('mirror', ('mirror', ('mirror', NET)))), is_barrier(5, 4, ('mirror', NET, None))])
        job = ('seq', (5, ('seq', (-2, 3))))
        self.assert_yes([is_barrier(job, 5, ('mirror', ('part', 0, ('mirror', ('part', 1, NET))))),
                         is_barrier(job, 5, ('mirror', ('part', 0, ('mirror', NET)))), is_barrier(job, 5, ('part', 1, NET))])
        self.assert_no([is_barrier(job, 6, ('mirror', ('part', 0, ('mirror', ('part', 1, NET)))))])
        self.assert_no([is_barrier(job, 5, ('mirror', ('part', 1, ('mirror', ('part', 1, NET)))))])
        self.assert_no([is_barrier(job, 5, ('part', 1, ('mirror', ('mirror', NET))))])

    def test_part(self):
        self.assert_yes([is_barrier(A, 4, ('part', 0, NET)), is_barrier(B, 2, ('part', 0, NET)), is_barrier(B, 0, ('part', 2, NET))])
        self.assert_no([
            is_barrier(A, 5, ('part', 0, NET)), is_barrier(A, 5, ('part', 1, NET)), is_barrier(A, 4, ('part', 2, NET)),
            is_barrier(A, 4, ('part', -2, NET)), is_barrier(A, 4, ('part', False, NET)), is_barrier(A, 4, ('part', None, NET)),
            is_barrier(A, 4, ('part', '0', NET)), is_barrier(A, 4, ('part', 0)), is_barrier(A, 4, ('part', 0, NET, NET)),
            is_barrier(A, 4, ('part', 0, STEP)), is_barrier(('par', (5, -3)), 4, ('part', 0, NET)), is_barrier(B, 1, ('part', 2, NET)),
            is_barrier(A, 4, ('part', 10 ** 70 - 1, NET)), is_barrier(('repeat', 2, 5), 4, ('part', 0, NET)),
        ])

    def test_front_of_parts(self):
        job = ('par', (('seq', (2, -5, 3)), ('seq', (4, -6, 2))))
        stuck = ('seq', (STEP,), NET)
        self.assert_yes([is_barrier(job, 1, ('front', (0, 0), (stuck, stuck)))])
        self.assert_no([
            is_barrier(job, 2, ('front', (0, 0), (stuck, stuck))), is_barrier(job, 1, ('front', (-3, -2), (LOWEST, LOWEST))),
            is_barrier(job, -1, ('front', (0, 0), (stuck, stuck))), is_barrier(job, 1, ('front', (0, 1), (stuck, stuck))),
            is_barrier(job, 1, ('front', (0, 0), (stuck, LOWEST))), is_barrier(job, 1, ('front', [0, 0], (stuck, stuck))),
            is_barrier(job, 1, ('front', (0, 0), [stuck, stuck])), is_barrier(job, 1, ('front', (0,), (stuck,))),
            is_barrier(job, 1, ('front', (0, 0), (stuck,))), is_barrier(job, 1, ('front', (0, False), (stuck, stuck))),
            is_barrier(job, 1, ('front', (0, 0))), is_barrier(job, 1, ('par', (0, 0), (stuck, stuck))),
            is_barrier(job, 1, ('front', 0, stuck)), is_barrier(('seq', job[1]), 1, ('front', (0, 0), (stuck, stuck))),
            is_barrier(('par', ()), 0, ('front', (), ())), is_barrier(('par', (5, 5)), 4, ('front', (0, 0), (STEP, STEP))),
        ])
        # The sum -4 is greater than the lowest usage -5: there are floors for it if the capacity is small.
        deeper = ('par', (('seq', (-3, 5, -6)), ('seq', (1, -2))))
        floors = (('seq', (STEP, STEP), NET), LOWEST)
        self.assert_yes([is_barrier(deeper, 0, ('front', (-3, -1), floors))])
        self.assert_no([is_barrier(deeper, 1, ('front', (-3, -1), floors)), is_barrier(deeper, 0, ('front', (-4, -1), floors))])
        # At the capacity -1 both floors are for the capacity 0, and only the front itself is for one below 0.
        twins = ('par', (('seq', (-1, 3, -4)),) * 2)
        floors = (('seq', (STEP, STEP), NET),) * 2
        self.assert_yes([is_barrier(twins, 0, ('front', (-1, -1), floors)), is_barrier(twins, -1, NET)])
        self.assert_no([is_barrier(twins, -1, ('front', (-1, -1), floors)), is_barrier(twins, 1, ('front', (-1, -1), floors))])
        self.assert_yes([is_floor(twins, 0, -2, ('par', (-1, -1), floors))])
        self.assert_no([is_floor(twins, -1, -2, ('par', (-1, -1), floors))])

    def test_high_part(self):
        self.assert_yes([is_barrier(C, 3, ('high', 0, ('part', 0, NET))), is_barrier(C, 2, ('high', 1, ('part', 0, NET)))])
        self.assert_no([
            is_barrier(C, 4, ('high', 0, ('part', 0, NET))), is_barrier(C, 3, ('high', 1, ('part', 0, NET))),
            is_barrier(C, 3, ('high', 2, ('part', 0, NET))), is_barrier(C, 3, ('high', -2, ('part', 0, NET))),
            is_barrier(C, 3, ('high', False, ('part', 0, NET))), is_barrier(C, 3, ('high', None, ('part', 0, NET))),
            is_barrier(C, 3, ('high', 0)), is_barrier(C, 3, ('high', ('part', 0, NET))), is_barrier(C, 3, ('high', 0, STEP)),
            is_barrier(('seq', C[1]), 3, ('high', 0, ('part', 0, NET))), is_barrier(('par', ()), 0, ('high', 0, NET)),
            is_barrier(C, 3, ('high', 0, ('part', 0, NET), None)), is_barrier(C, 3, ('part', 0, ('part', 0, NET))),
        ])

    def test_round(self):
        n = 10 ** 29
        for job, edge in ((('repeat', n, A), 5 + 2 * (n - 1)), (('repeat', n, ('seq', (5, -6))), 5), (('repeat', 1, A), 5),
                          (('repeat', 2, A), 7)):
            barrier = ('round', ('part', 0, NET))
            self.assert_yes([is_barrier(job, edge - 1, barrier), is_barrier(job, -1, barrier)])
            self.assert_no([is_barrier(job, edge, barrier), is_barrier(job, edge - 1, ('round',)),
                            is_barrier(job, edge - 1, ('round', STEP)), is_barrier(job, edge - 1, barrier + (None,)),
                            is_barrier(('copies', *job[1:]), 1, ('round', NET))])
        self.assert_no([is_barrier(('repeat', 0, A), -1, ('round', NET)), is_barrier(('repeat', 0, A), 0, ('round', NET))])
        self.assert_yes([is_barrier(('repeat', 0, A), -1, NET)])

    def test_front_of_copies(self):
        job = ('copies', 2, ('seq', (2, -3)))
        stuck = ('seq', (STEP,), NET)
        self.assert_yes([is_barrier(job, 1, ('front', 0, stuck)), is_barrier(('copies', 10 ** 29, job[2]), 1, ('front', 0, stuck))])
        self.assert_no([
            is_barrier(job, 2, ('front', 0, stuck)), is_barrier(job, -1, ('front', 0, stuck)), is_barrier(job, 1, ('front', -1, LOWEST)),
            is_barrier(job, 1, ('front', 1, stuck)), is_barrier(job, 1, ('front', False, stuck)), is_barrier(job, 1, ('front', None, stuck)),
            is_barrier(job, 1, ('front', 0)), is_barrier(job, 1, ('front', 0, stuck, None)), is_barrier(job, 1, ('front', (0,), (stuck,))),
            is_barrier(job, 1, ('copies', 0, stuck)), is_barrier(('copies', 0, job[2]), 1, ('front', 0, stuck)),
            is_barrier(('repeat', 2, job[2]), 1, ('front', 0, stuck)), is_barrier(('copies', 2, 5), 4, ('front', 0, STEP)),
        ])
        # At the low -1 of the others a copy has a capacity of 1, and needs 2 for the step 3.
        deeper = ('copies', 2, ('seq', (-1, 3, -4)))
        floor = ('seq', (STEP, STEP), NET)
        self.assert_yes([is_barrier(deeper, 0, ('front', -1, floor)), is_barrier(deeper, -1, NET)])
        # At the capacity -1 the floor is for the capacity 0, and only the front itself is for one below 0.
        self.assert_no([is_barrier(deeper, -1, ('front', -1, floor))])
        self.assert_no([is_barrier(deeper, 1, ('front', -1, floor)), is_barrier(deeper, 0, ('front', -2, LOWEST)),
                        is_barrier(deeper, 0, ('front', 0, floor))])

    def test_high_copies(self):
        for n in (1, 2, 3, 10 ** 29):
            job = ('copies', n, ('seq', (-1, 9, -8)))
            edge = 8 - (n - 1)
            high = ('high', ('part', 1, NET))
            self.assert_yes([is_barrier(job, edge - 1, high)])
            self.assert_no([is_barrier(job, edge, high), is_barrier(job, edge - 1, ('high', 0, ('part', 1, NET))),
                            is_barrier(job, edge - 1, ('high',)), is_barrier(job, edge - 1, ('high', STEP)),
                            is_barrier(('repeat', *job[1:]), edge - 1, high)])
        self.assert_no([is_barrier(('copies', 0, 5), -1, ('high', NET)), is_barrier(('copies', 0, 5), 0, ('high', NET))])


class TablesTest(Checks):
    def test_values_of_any_origin(self):
        source = random.Random(161)
        found = {True: 0, False: 0}
        for job in random_jobs(162, 1500, 6, levels=5) + uneven_jobs(163, 500):
            capacity = source.randint(-2, 9)
            low = source.randint(-7, 1)
            for _ in range(4):
                floor = random_floor(source, job, capacity, low)
                expected = is_floor_by_words(job, capacity, low, floor)
                found[expected] += floor != LOWEST
                self.assertIs(is_floor(job, capacity, low, floor), expected, (job, capacity, low, floor))
                barrier = random_barrier(source, job, capacity)
                expected = is_barrier_by_words(job, capacity, barrier)
                found[expected] += barrier != NET
                self.assertIs(is_barrier(job, capacity, barrier), expected, (job, capacity, barrier))
        self.assertGreater(min(found.values()), 1000)

    def test_what_floors_and_barriers_show(self):
        source = random.Random(163)
        found = 0
        for job in random_jobs(164, 400, 6, levels=5) + uneven_jobs(165, 300, most=100):
            _, peak, start, _ = profile_of(job)
            for _ in range(6):
                capacity = source.randint(0, 9)
                low = source.randint(-7, 0)
                if is_floor(job, capacity, low, random_floor(source, job, capacity, low)):
                    self.assertGreaterEqual(value_at(start, capacity), low)
                    found += 1
                if is_barrier(job, capacity, random_barrier(source, job, capacity)):
                    self.assertLess(capacity, peak)
                    found += 1
        self.assertGreater(found, 500)

    def test_what_they_show_of_single_runs(self):
        source = random.Random(165)
        for job in random_jobs(166, 60, 5):
            order = Order(job)
            for capacity in range(6):
                low = source.randint(-5, 0)
                lows = [order.usage(run) for run in order.runs() if order.peak(run) <= capacity]
                for _ in range(3):
                    if is_floor(job, capacity, low, random_floor(source, job, capacity, low)):
                        self.assertGreaterEqual(min(lows), low)

    def test_one_part_changed(self):
        source = random.Random(167)
        found = {True: 0, False: 0}
        for job in random_jobs(168, 250, 6, levels=5):
            capacity = source.randint(0, 7)
            low = source.randint(-5, 0)
            floor = random_floor(source, job, capacity, low)
            if is_floor(job, capacity, low, floor) and floor != LOWEST:
                for other in changes_of(floor, words=WORDS):
                    expected = is_floor_by_words(job, capacity, low, other)
                    self.assertIs(is_floor(job, capacity, low, other), expected, (job, capacity, low, other))
                    found[expected] += 1
            barrier = random_barrier(source, job, capacity)
            if is_barrier(job, capacity, barrier) and barrier != NET:
                for other in changes_of(barrier, words=WORDS):
                    expected = is_barrier_by_words(job, capacity, other)
                    self.assertIs(is_barrier(job, capacity, other), expected, (job, capacity, other))
                    found[expected] += 1
        self.assertGreater(min(found.values()), 200)

    def test_mirrors(self):
        source = random.Random(169)
        for job in random_jobs(170, 200, 6):
            self.assertEqual(lowest_of(mirror_of(job)), lowest_of(job) - net_of(job))
            capacity = source.randint(0, 6)
            barrier = random_barrier(source, mirror_of(job), capacity - net_of(job))
            expected = barrier[0] != 'mirror' and is_barrier(mirror_of(job), capacity - net_of(job), barrier)
            self.assertIs(is_barrier(job, capacity, ('mirror', barrier)), expected)


class WrongInputsTest(Checks):
    def test_any_value(self):
        for job in (5, -5, A, C, D, P, EMPTY_HUGE, ('seq', ()), ('par', ()), ('repeat', 0, 5)):
            for index, value in enumerate(NO_CERTIFICATES):
                with self.subTest(job=job, index=index):
                    self.assertIs(is_floor(job, 5, -9, value), False)
                    self.assertIs(is_barrier(job, -1, value), False)
            self.assertIs(is_floor(job, 5, -9, WIDE), False)
            self.assertIs(is_barrier(job, -1, WIDE), False)

    def test_long_tuples(self):
        many = 10 ** 6
        self.assert_no([
            is_floor(C, 5, -9, ('par', (0,) * many, (LOWEST,) * many)), is_floor(A, 5, -9, ('seq', (LOWEST,) * many, None)),
            is_barrier(C, 3, ('front', (0,) * many, (LOWEST,) * many)),
        ])

    def test_numbers(self):
        for value in NO_NUMBERS:
            self.assert_invalid_number(value, is_floor, C, value, 0, LOWEST)
            self.assert_invalid_number(value, is_floor, C, value, None, None)
            self.assert_invalid_number(value, is_floor, C, 0, value, LOWEST)
            self.assert_invalid_number(value, is_floor, C, -1, value, None)
            self.assert_invalid_number(value, is_barrier, C, value, NET)
            self.assert_invalid_number(value, is_barrier, C, value, None)
        for value in NUMBER_EDGES:
            self.assertIs(is_floor(5, value, value, LOWEST), value == 0)
            self.assertIs(is_barrier(5, value, NET), value < 5)

    def test_wrong_jobs(self):
        for job in NO_JOBS:
            self.assert_raises_only(InvalidJob, is_floor, job, None, None, None)
            self.assert_raises_only(InvalidJob, is_floor, job, 0, 0, LOWEST)
            self.assert_raises_only(InvalidJob, is_barrier, job, None, None)
            self.assert_raises_only(InvalidJob, is_barrier, job, -1, NET)
