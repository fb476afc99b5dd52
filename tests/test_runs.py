"""Promises 3.1 to 3.3: runs of small jobs."""

import unittest

from roomprofile.errors import InvalidJob, InvalidRun, InvalidState
from roomprofile.jobs.addresses import all_addresses
from roomprofile.jobs.states import usage
from roomprofile.runs.runs import (
    cut_run, is_complete_run, is_run, lift_run, run_peak, run_usages, some_run, state_after,
)
from tests.checks import Checks
from tests.reference import Order, random_jobs
from tests.values import B, C, D, EMPTY_HUGE, HUGE, LARGE, NO_JOBS, P, SMALL, STRANGE

NO_RUNS_OF_C = STRANGE + (
    ((),), ((0, 1),), ((0, 1), (0, 0)), ((0, 0), (0, 0)), [(0, 0)], ([0, 0],), ((0, 0), [1, 0]), ((True, 0),),
    ((0, False),), ((1, 0), (1, 2)), ((0, 0), (2, 0)), (0, 0), 5, (5,), ((0, 0), None), ((0, 0), 'x'), ((0,),),
    ((0, 0, 0),), ((-1, 0),), ((0, 0),) * 500, ((1, 0), (1, 1), (1, 2), (1, 0)), ((0, 0), {}), {(0, 0): True},
)
WITH_RUN = (state_after, run_usages, run_peak)


def all_cases(seed, many, steps):
    """Small jobs with each state and each run from it."""
    for job in random_jobs(seed, many, steps):
        order = Order(job)
        for state in order.states():
            for run in order.runs(state):
                yield job, order, state, run


class ErrorsOfRunsTest(Checks):
    def test_wrong_jobs_come_first(self):
        for index, job in enumerate(NO_JOBS):
            with self.subTest(index=index):
                for function in (is_run, is_complete_run) + WITH_RUN:
                    self.assert_raises_only(InvalidJob, function, job, ())
                    self.assert_raises_only(InvalidJob, function, job, None, state=None)
                self.assert_raises_only(InvalidJob, some_run, job, state=None)
                for function in (lift_run, cut_run):
                    self.assert_raises_only(InvalidJob, function, job, (), ())
                    self.assert_raises_only(InvalidJob, function, job, None, None)

    def test_large_jobs_come_next(self):
        for job in (LARGE, ('copies', 401, 0), ('par', (SMALL, 0)), D, HUGE):
            for function in (is_run, is_complete_run) + WITH_RUN:
                self.assert_too_many(400, function, job, ())
                self.assert_too_many(400, function, job, None, state=None)
            self.assert_too_many(400, some_run, job)
            self.assert_too_many(400, some_run, job, state=None)
            for function in (lift_run, cut_run):
                self.assert_too_many(400, function, job, (), ())
                self.assert_too_many(400, function, job, None, None)

    def test_then_wrong_states_then_wrong_runs(self):
        for index, value in enumerate(NO_RUNS_OF_C):
            with self.subTest(index=index):
                for function in (is_run, is_complete_run) + WITH_RUN:
                    self.assert_raises_only(InvalidState, function, C, (), state=value)
                    self.assert_raises_only(InvalidState, function, C, value, state=value)
                self.assert_raises_only(InvalidState, some_run, C, state=value)
                for function in WITH_RUN:
                    self.assert_raises_only(InvalidRun, function, C, value)
        for function in WITH_RUN:
            self.assert_raises_only(InvalidRun, function, C, ((0, 0),), state=((0, 0),))
            self.assert_raises_only(InvalidState, function, C, ((0, 0),), state=((1, 0), (0, 0)))

    def test_lift_and_cut_take_the_run_first(self):
        for index, value in enumerate(NO_RUNS_OF_C):
            with self.subTest(index=index):
                for function in (lift_run, cut_run):
                    self.assert_raises_only(InvalidRun, function, C, value, ())
                    self.assert_raises_only(InvalidRun, function, C, value, value)
                    self.assert_raises_only(InvalidState, function, C, ((0, 0),), value)
        for function in (lift_run, cut_run):
            self.assert_raises_only(InvalidState, function, C, (), ((1, 0), (0, 0)))

    def test_the_state_is_a_keyword(self):
        for function in (is_run, is_complete_run) + WITH_RUN:
            with self.assertRaises(TypeError):
                function(C, (), ())
        with self.assertRaises(TypeError):
            some_run(C, ())


class RunTest(Checks):
    def test_examples(self):
        values = [is_run(B, ((0,), (1,))), is_run(B, ((1,),)), is_run(B, ((1,),), state=((0,),)),
                  is_run(B, ((0,),), state=((0,),))]
        self.assertEqual(values, [True, False, True, False])
        values = [is_complete_run(B, ((0,), (1,))), is_complete_run(B, ((1,), (2,)), state=((0,),))]
        self.assertEqual(values, [False, True])

    def test_other_values(self):
        self.assert_no([is_run(C, value) for value in NO_RUNS_OF_C])
        self.assert_no([is_complete_run(C, value) for value in NO_RUNS_OF_C])
        self.assert_no([is_run(C, value, state=((0, 0),)) for value in NO_RUNS_OF_C if value != ((0, 1),)])

    def test_any_order_of_parallel_steps(self):
        self.assert_yes([is_run(C, ((1, 0), (0, 0))), is_run(P, ((1, 0), (0, 0), (1, 1))), is_run(C, ())])
        self.assert_no([is_run(C, ((1, 1), (0, 0))), is_run(P, ((1, 0), (0, 1)))])

    def test_all_orders_of_all_steps(self):
        for job in random_jobs(51, 60, 5):
            order = Order(job)
            addresses = list(order.value)
            for state in order.states():
                runs = set(order.runs(state))
                rows = tuple(sorted(state))
                for chosen in sequences(addresses, 3):
                    self.assertIs(is_run(job, chosen, state=rows), chosen in runs)

    def test_complete_runs(self):
        for job, order, state, run in all_cases(52, 40, 5):
            rows = tuple(sorted(state))
            self.assertIs(is_run(job, run, state=rows), True)
            self.assertIs(is_complete_run(job, run, state=rows), len(run) + len(rows) == len(order.value))

    def test_some_run(self):
        self.assertEqual(some_run(B, state=((0,),)), ((1,), (2,)))
        for job in random_jobs(53, 100, 8):
            order = Order(job)
            for state in order.states():
                rows = tuple(sorted(state))
                run = some_run(job, state=rows)
                self.assertIs(is_complete_run(job, run, state=rows), True)
                self.assertEqual(some_run(job, state=rows), run)
            self.assertIs(is_complete_run(job, some_run(job)), True)

    def test_the_greatest_small_jobs(self):
        job = ('seq', (EMPTY_HUGE, ('copies', 20, ('repeat', 20, 1))))
        every = all_addresses(job)
        backwards = tuple(sorted(every, key=lambda row: (-row[1], row[2])))
        self.assertIs(is_complete_run(job, backwards), True)
        self.assertIs(is_complete_run(job, backwards[20:], state=backwards[:20]), True)
        self.assertIs(is_complete_run(job, some_run(job)), True)
        self.assertEqual(state_after(job, backwards), every)
        self.assertEqual(run_usages(SMALL, some_run(SMALL)), tuple(range(401)))
        self.assertEqual(len(lift_run(job, backwards, every[:20])), 380)

    def test_empty_jobs(self):
        for job in (('seq', ()), EMPTY_HUGE, ('repeat', 0, HUGE)):
            self.assertIs(is_complete_run(job, ()), True)
            self.assertEqual((some_run(job), state_after(job, ()), run_usages(job, ()), run_peak(job, ())), ((), (), (0,), 0))
            self.assertEqual((lift_run(job, (), ()), cut_run(job, (), ())), ((), ()))


class UsagesTest(Checks):
    def test_examples(self):
        self.assertEqual(state_after(C, ((1, 1), (0, 0)), state=((1, 0),)), ((0, 0), (1, 0), (1, 1)))
        self.assertEqual(run_usages(C, ((1, 0), (1, 1), (0, 0), (0, 1), (1, 2))), (0, 3, -1, 4, 1, 3))
        values = [run_peak(B, ((0,), (1,), (2,))), run_peak(B, ((2,),), state=((0,), (1,))),
                  run_peak(B, (), state=((0,), (1,)))]
        self.assertEqual(values, [3, 1, -1])

    def test_all_runs(self):
        for job, order, state, run in all_cases(54, 40, 5):
            rows = tuple(sorted(state))
            self.assert_same(state_after(job, run, state=rows), tuple(sorted(state | set(run))))
            usages = [order.usage(state | set(run[:many])) for many in range(len(run) + 1)]
            self.assert_same(run_usages(job, run, state=rows), tuple(usages))
            self.assert_same(run_peak(job, run, state=rows), max(usages))
            if not state:
                self.assert_same(run_usages(job, run), tuple(usages))

    def test_a_run_that_only_goes_down(self):
        job = ('seq', (-5, -1, -2))
        self.assertEqual(run_peak(job, ((0,), (1,))), 0)
        self.assertEqual(run_peak(job, ((1,), (2,)), state=((0,),)), -5)


class LiftAndCutTest(Checks):
    RUN = ((0, 0), (0, 1), (1, 0), (1, 1), (1, 2))

    def test_examples(self):
        values = [lift_run(C, self.RUN, ((1, 0), (1, 1))), cut_run(C, self.RUN, ((0, 0), (1, 0)))]
        self.assertEqual(values, [((0, 0), (0, 1), (1, 2)), ((0, 0), (1, 0))])
        lifted = lift_run(C, self.RUN, ((1, 0), (1, 1)))
        self.assertEqual([run_peak(C, self.RUN), run_peak(C, lifted, state=((1, 0), (1, 1)))], [5, 4])

    def test_the_order_of_the_run_stays(self):
        run = ((1, 0), (0, 0), (1, 1), (0, 1))
        self.assertEqual(lift_run(C, run, ((1, 0),)), ((0, 0), (1, 1), (0, 1)))
        self.assertEqual(cut_run(C, run, ((0, 0), (1, 0), (1, 1))), ((1, 0), (0, 0), (1, 1)))

    def test_all_runs_and_states(self):
        for job in random_jobs(55, 40, 5):
            order = Order(job)
            states = order.states()
            for run in order.runs():
                for state in states:
                    self.check_one(job, order, run, state)

    def check_one(self, job, order, run, state):
        rows = tuple(sorted(state))
        lifted = lift_run(job, run, rows)
        cut = cut_run(job, run, rows)
        self.assert_same(lifted, tuple(one for one in run if one not in state))
        self.assert_same(cut, tuple(one for one in run if one in state))
        self.assertIs(is_run(job, lifted, state=rows), True)
        self.assertIs(is_run(job, cut), True)
        low = usage(job, rows)
        if all(order.usage(other) >= low for other in order.states() if other <= state):
            self.assertLessEqual(run_peak(job, lifted, state=rows), run_peak(job, run))
        if all(order.usage(other) >= low for other in order.states() if other >= state):
            self.assertLessEqual(run_peak(job, cut), run_peak(job, run))


def sequences(values, longest):
    """All tuples of at most so many of the values, with repetitions."""
    found = [()]
    layer = [()]
    for _ in range(longest):
        layer = [row + (value,) for row in layer for value in values]
        found.extend(layer)
    return found


if __name__ == '__main__':
    unittest.main()
