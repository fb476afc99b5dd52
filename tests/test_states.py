"""Promises 2.3 and 2.4: states of small jobs."""

import random
import unittest

from roomprofile.errors import InvalidAddress, InvalidJob, InvalidState
from roomprofile.jobs.addresses import all_addresses
from roomprofile.jobs.states import available, common, is_state, least_state, union, usage
from tests.checks import Checks
from tests.reference import Order, random_jobs
from tests.values import A, B, C, D, EMPTY_HUGE, HUGE, LARGE, NO_JOBS, NO_NUMBERS, NUMBER_EDGES, P, SMALL, STRANGE

# `()` is a state of every job.
NO_STATES_OF_C = STRANGE + (
    ((),), ((0, 1),), ((1, 0), (0, 0)), ((0, 0), (0, 0)), [(0, 0)], ([0, 0],), ((0, 0), [1, 0]), ((True, 0),),
    ((0, False),), ((0, 0), (1, False)), ((0, 0), (1, 2)), ((0, 0), (1, 0), (1, 2)), ((0, 0), (2, 0)), (0, 0), 5, (5,),
    ((0, 0), None), ((0, 0), 'x'), ((0,),), ((0, 0, 0),), ((-1, 0),), ((1, 0), (1, 1), (0, 0)), ((0, 0),) * 500,
    ((0, 0), (0, 1), (1, 0), (1, 1), (1, 2), (1, 3)), ((0, 0), {}), {(0, 0): True}, ((10 ** 70, 0),),
)
FUNCTIONS = (
    (is_state, ((),)), (usage, ((),)), (available, ((),)), (union, ((), ())), (common, ((), ())), (least_state, ((),)),
)


class SmallJobsTest(Checks):
    def test_wrong_jobs_come_first(self):
        for function, rest in FUNCTIONS:
            for index, job in enumerate(NO_JOBS):
                with self.subTest(function=function.__name__, index=index):
                    self.assert_raises_only(InvalidJob, function, job, *rest)
                    self.assert_raises_only(InvalidJob, function, job, *[None for _ in rest])

    def test_large_jobs_come_next(self):
        for function, rest in FUNCTIONS:
            for job in (LARGE, ('copies', 401, 0), ('par', (SMALL, 0)), D, HUGE):
                with self.subTest(function=function.__name__):
                    self.assert_too_many(400, function, job, *rest)
                    self.assert_too_many(400, function, job, *[None for _ in rest])
        self.assert_too_many(400, lambda job: available(job, None, most=True), LARGE)

    def test_the_greatest_small_jobs(self):
        for job in (SMALL, ('copies', 400, 1), ('repeat', 20, ('copies', 20, 1)), ('seq', (EMPTY_HUGE, SMALL, EMPTY_HUGE))):
            every = all_addresses(job)
            self.assertEqual(len(every), 400)
            self.assertIs(is_state(job, every), True)
            self.assertEqual(usage(job, every), 400)
            self.assertEqual(available(job, every), ())
            self.assertEqual(least_state(job, every[::-1]), every)
            self.assertEqual(union(job, every[:200], every), every)
            self.assertEqual(common(job, every[:200], every), every[:200])

    def test_empty_jobs(self):
        for job in (('seq', ()), EMPTY_HUGE, ('repeat', 0, HUGE), ('copies', 10 ** 30, ('par', ()))):
            self.assertIs(is_state(job, ()), True)
            self.assertIs(is_state(job, ((),)), False)
            self.assertEqual((usage(job, ()), available(job, ()), least_state(job, ())), (0, (), ()))


class StateTest(Checks):
    def test_example(self):
        values = [is_state(C, ()), is_state(C, ((0, 0), (1, 0))), is_state(C, ((0, 1),)), is_state(C, ((1, 0), (0, 0)))]
        self.assertEqual(values, [True, True, False, False])

    def test_other_values(self):
        self.assert_no([is_state(C, value) for value in NO_STATES_OF_C])

    def test_a_step(self):
        self.assert_yes([is_state(5, ()), is_state(5, ((),))])
        self.assert_no([is_state(5, value) for value in (((), ()), ((0,),), (5,), [()], None)])

    def test_all_sets_of_steps(self):
        for job in random_jobs(41, 60, 7):
            order = Order(job)
            states = set(order.states())
            addresses = all_addresses(job)
            for number in range(2 ** len(addresses)):
                rows = tuple(row for index, row in enumerate(addresses) if number >> index & 1)
                self.assertIs(is_state(job, rows), frozenset(rows) in states)

    def test_order_of_the_addresses(self):
        source = random.Random(42)
        for job in random_jobs(43, 60, 7):
            for state in Order(job).states():
                rows = sorted(state)
                mixed = source.sample(rows, len(rows))
                self.assertIs(is_state(job, tuple(mixed)), mixed == rows)

    def test_rounds_and_copies(self):
        job = ('copies', 3, ('repeat', 3, 5))
        self.assert_yes([is_state(job, ((0, 0), (2, 0), (2, 1))), is_state(job, ((1, 0), (1, 1), (1, 2)))])
        self.assert_no([is_state(job, ((0, 0), (2, 1))), is_state(job, ((1, 0), (1, 2)))])

    def test_usage(self):
        self.assertEqual(usage(C, ((1, 0), (1, 1))), -1)
        self.assertEqual([usage(C, ()), usage(C, all_addresses(C)), usage(P, ((0, 0), (1, 0), (1, 1)))], [0, 3, 7])
        for job in random_jobs(44, 60, 8):
            order = Order(job)
            for state in order.states():
                self.assert_same(usage(job, tuple(sorted(state))), order.usage(state))

    def test_wrong_states(self):
        for index, value in enumerate(NO_STATES_OF_C):
            with self.subTest(index=index):
                self.assert_raises_only(InvalidState, usage, C, value)
                self.assert_raises_only(InvalidState, available, C, value)
                self.assert_raises_only(InvalidState, available, C, value, most=True)
                for function in (union, common):
                    self.assert_raises_only(InvalidState, function, C, value, ())
                    self.assert_raises_only(InvalidState, function, C, (), value)
                    self.assert_raises_only(InvalidState, function, C, value, value)


class AvailableTest(Checks):
    def test_example(self):
        values = [available(C, ((1, 0),)), available(C, ((1, 0),), most=0)]
        self.assertEqual(values, [((0, 0), (1, 1)), ((1, 1),)])

    def test_all_states(self):
        for job in random_jobs(45, 100, 8):
            order = Order(job)
            for state in order.states():
                rows = tuple(sorted(state))
                self.assert_same(available(job, rows), tuple(order.available(state)))
                self.assert_same(available(job, rows, most=None), tuple(order.available(state)))
                for most in (-3, 0, 2):
                    expected = tuple(row for row in order.available(state) if order.value[row] <= most)
                    self.assert_same(available(job, rows, most=most), expected)

    def test_most_is_included(self):
        self.assertEqual(available(C, (), most=3), ((1, 0),))
        self.assertEqual(available(C, (), most=2), ())
        self.assertEqual(available(C, (), most=5), ((0, 0), (1, 0)))

    def test_most(self):
        for most in NUMBER_EDGES:
            self.assertEqual(available(C, (), most=most), ((0, 0), (1, 0)) if most > 0 else ())
        for index, value in enumerate(NO_NUMBERS):
            if value is not None:
                with self.subTest(index=index):
                    self.assert_invalid_number(value, available, C, (), most=value)

    def test_most_is_a_keyword(self):
        with self.assertRaises(TypeError):
            available(C, (), 0)


class TwoStatesTest(Checks):
    def test_example(self):
        values = [union(C, ((0, 0),), ((1, 0), (1, 1))), common(C, ((0, 0),), ((1, 0), (1, 1)))]
        self.assertEqual(values, [((0, 0), (1, 0), (1, 1)), ()])

    def test_all_pairs_of_states(self):
        for job in random_jobs(46, 40, 5):
            order = Order(job)
            states = order.states()
            for one in states:
                for two in states:
                    first, second = tuple(sorted(one)), tuple(sorted(two))
                    both = union(job, first, second)
                    shared = common(job, first, second)
                    self.assert_same(both, tuple(sorted(one | two)))
                    self.assert_same(shared, tuple(sorted(one & two)))
                    self.assertEqual(usage(job, both) + usage(job, shared), usage(job, first) + usage(job, second))


class LeastStateTest(Checks):
    def test_example(self):
        self.assertEqual(least_state(C, ((1, 1), (0, 0), (1, 1))), ((0, 0), (1, 0), (1, 1)))

    def test_all_sets_of_steps(self):
        source = random.Random(47)
        for job in random_jobs(48, 60, 6):
            order = Order(job)
            addresses = list(order.value)
            for number in range(2 ** len(addresses)):
                rows = [row for index, row in enumerate(addresses) if number >> index & 1]
                holders = [state for state in order.states() if state >= set(rows)]
                source.shuffle(rows)
                self.assert_same(least_state(job, tuple(rows)), tuple(sorted(min(holders, key=len))))

    def test_repeated_addresses(self):
        self.assertEqual(least_state(P, ((1, 1),) * 10000), ((1, 0), (1, 1)))
        self.assertEqual(least_state(5, ((), ())), ((),))

    def test_inner_rounds(self):
        job = ('seq', (('par', (('repeat', 2, 1), 2)), ('repeat', 2, ('copies', 2, B))))
        self.assertEqual(least_state(job, ((0, 0, 1),)), ((0, 0, 0), (0, 0, 1)))
        self.assertEqual(least_state(job, ((1, 0, 1, 0),)), ((0, 0, 0), (0, 0, 1), (0, 1), (1, 0, 1, 0)))
        self.assertEqual(len(least_state(job, ((1, 1, 1, 1),))), 3 + 6 + 2)

    def test_wrong_addresses(self):
        for index, value in enumerate(NO_STATES_OF_C):
            kinds = [row for row in value] if isinstance(value, tuple) else None
            good = kinds is not None and all(row in ((0, 0), (0, 1), (1, 0), (1, 1), (1, 2)) for row in kinds)
            good = good and all(type(number) is int for row in kinds for number in row)
            with self.subTest(index=index):
                if good:
                    self.assertIs(is_state(C, least_state(C, value)), True)
                else:
                    self.assert_raises_only(InvalidAddress, least_state, C, value)
        self.assert_raises_only(InvalidAddress, least_state, A, ((0,), (1,), (2,)))


if __name__ == '__main__':
    unittest.main()
