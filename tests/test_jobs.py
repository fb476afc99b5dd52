"""Promises 1.1 to 1.4: jobs, their numbers, their nets and lowest usages, and their mirrors."""

import unittest

from roomprofile.errors import InvalidJob
from roomprofile.jobs.jobs import (
    MAX_COUNT, MAX_DEPTH, MAX_NODES, MAX_PARTS, MAX_STEP, is_empty, is_job, lowest, mirror, net, node_count,
    step_count, tidy,
)
from tests.checks import Checks
from tests.reference import Order, random_jobs, steps_of
from tests.values import A, B, C, D, EMPTY_HUGE, HUGE, NO_JOBS, P, WIDE, nested

EMPTY_JOBS = (
    ('seq', ()), ('par', ()), ('repeat', 0, 5), ('copies', 0, 5), ('repeat', 0, A), ('repeat', 10 ** 30, ('par', ())),
    ('copies', 10 ** 30, ('seq', ())), ('par', (('seq', ()), ('copies', 3, ('repeat', 0, B)))), EMPTY_HUGE,
    ('repeat', 0, ('copies', 10 ** 30, -1)), ('copies', 0, HUGE),
)


class IsJobTest(Checks):
    def test_constants(self):
        self.assertEqual((MAX_STEP, MAX_COUNT, MAX_PARTS, MAX_NODES, MAX_DEPTH), (10 ** 30, 10 ** 30, 400, 400, 13))

    def test_example(self):
        values = [is_job(C), is_job(('seq', [5])), is_job(True), is_job(('copies', 10 ** 30, B))]
        self.assertEqual(values, [True, False, False, False])

    def test_jobs(self):
        self.assert_yes([is_job(job) for job in (0, 5, -5, A, B, C, D, P, HUGE) + EMPTY_JOBS])

    def test_other_values(self):
        self.assert_no([is_job(value) for value in NO_JOBS])

    def test_steps(self):
        self.assert_yes([is_job(step) for step in (10 ** 30, -10 ** 30, 10 ** 30 - 1, 0)])
        self.assert_no([is_job(step) for step in (10 ** 30 + 1, -10 ** 30 - 1, 10 ** 60, -10 ** 70 + 1, True, False)])
        self.assert_yes([is_job(('seq', (10 ** 30, -10 ** 30)))])
        self.assert_no([is_job(('seq', (0, 10 ** 30 + 1))), is_job(('copies', 2, -10 ** 30 - 1))])

    def test_counts(self):
        for kind in ('repeat', 'copies'):
            self.assert_yes([is_job((kind, n, 5)) for n in (0, 1, 2, 10 ** 30 - 1, 10 ** 30)])
            self.assert_no([is_job((kind, n, 5)) for n in (-1, 10 ** 30 + 1, 10 ** 70, True, False, None, '2')])
            self.assert_no([is_job((kind, n, ('seq', ()))) for n in (-1, 10 ** 30 + 1, True)])

    def test_nodes_and_parts(self):
        for kind in ('seq', 'par'):
            self.assert_yes([is_job((kind, (5,) * many)) for many in (1, 398, 399)])
            self.assert_no([is_job((kind, (5,) * many)) for many in (400, 401, 10 ** 6)])
            for rounds in ('repeat', 'copies'):
                self.assert_yes([is_job((rounds, 2, (kind, (5,) * 398))), is_job((kind, ((rounds, 0, 5),) + (5,) * 397))])
                self.assert_no([is_job((rounds, 2, (kind, (5,) * 399))), is_job((kind, ((rounds, 0, 5),) + (5,) * 398))])
                self.assertEqual(node_count((rounds, 0, (kind, (5,) * 398))), 400)
        half = ('par', (5,) * 198)
        self.assert_yes([is_job(('seq', (half, half))), is_job(('seq', (half, half, 1)))])
        self.assert_no([is_job(('seq', (half, half, 1, 1)))])
        full = ('seq', (('copies', 2, half), ('repeat', 2, half[:1] + (half[1][2:],)), 1))
        self.assertEqual(node_count(full), 400)
        self.assert_no([is_job(('seq', full[1] + (('seq', ()),))), is_job(('repeat', 1, full)), is_job(('seq', (full,)))])

    def test_nesting(self):
        cores = ((5, 1), (('seq', ()), 1), (('repeat', 2, 5), 2), (('copies', 0, ('par', (1, 2))), 3))
        for core, levels in cores:
            for kind in ('seq', 'par'):
                self.assert_yes([is_job(nested(kind, 13 - levels, core))])
                self.assert_no([is_job(nested(kind, 14 - levels, core))])
        for kind in ('repeat', 'copies'):
            job = 5
            for _ in range(12):
                job = (kind, 1, job)
            self.assert_yes([is_job(job)])
            self.assert_no([is_job((kind, 1, job)), is_job((kind, 0, job)), is_job(('seq', (1, job)))])

    def test_steps_in_all(self):
        most = 10 ** 30
        self.assert_yes([is_job(job) for job in (
            ('repeat', most, -1), ('seq', (('copies', most - 1, 1), 0)), ('copies', 10 ** 15, ('repeat', 10 ** 15, 0)),
            ('par', (('copies', most, 5), ('repeat', most, ('seq', ())))), ('repeat', 0, ('copies', most, 5)),
            ('copies', most // 2, ('seq', (1, 2))),
        )])
        self.assert_no([is_job(job) for job in (
            ('seq', (('copies', most, 1), 0)), ('par', (0, ('repeat', most, 1))), ('repeat', most, ('seq', (1, 1))),
            ('copies', 10 ** 15, ('repeat', 10 ** 15 + 1, 0)), ('copies', most // 2 + 1, ('seq', (1, 2))),
            ('copies', 2, ('repeat', most, 1)), ('repeat', most, ('copies', most, 1)),
        )])

    def test_an_inner_job_with_too_many_steps(self):
        inner = ('seq', (('repeat', 10 ** 30, 1), 1))
        self.assert_no([is_job(job) for job in (
            inner, ('repeat', 0, inner), ('copies', 0, inner), ('seq', (5, ('copies', 0, inner))),
            ('copies', 0, ('par', (('repeat', 0, ('copies', 10 ** 30, A)),))),
        )])

    def test_sequences_are_tuples(self):
        self.assert_no([is_job(value) for value in (
            ['seq', (5,)], ('seq', [5]), ('seq', ([5],)), ['repeat', 2, 5], ('repeat', 2, ['seq', ()]), ('par', {5: 5}),
        )])

    def test_a_value_that_nobody_can_read_to_its_end(self):
        self.assert_no([is_job(WIDE), is_job(('repeat', 0, WIDE))])
        with self.assertRaises(InvalidJob):
            tidy(WIDE)

    def test_wrong_jobs_raise_everywhere(self):
        for function in (node_count, step_count, is_empty, net, lowest, mirror, tidy):
            for index, value in enumerate(NO_JOBS):
                with self.subTest(function=function.__name__, index=index):
                    self.assert_raises_only(InvalidJob, function, value)


class NumbersTest(Checks):
    def test_example(self):
        values = [node_count(C), step_count(C), step_count(P), is_empty(('par', (('seq', ()),)))]
        self.assertEqual(values, [8, 5, 6, True])

    def test_nodes(self):
        self.assertEqual([node_count(job) for job in (5, ('seq', ()), A, P, D, ('repeat', 0, A))], [1, 1, 3, 5, 4, 4])

    def test_steps(self):
        jobs = (5, 0, ('seq', ()), D, ('copies', 5, P), ('repeat', 0, P), HUGE, EMPTY_HUGE, ('copies', 10 ** 30, 1))
        self.assertEqual([step_count(job) for job in jobs], [1, 1, 0, 2 * 10 ** 6, 30, 0, 10 ** 30, 0, 10 ** 30])

    def test_steps_one_by_one(self):
        for job in random_jobs(11, 200, 12):
            steps = len(steps_of(job))
            self.assertEqual((step_count(job), is_empty(job)), (steps, steps == 0))

    def test_empty(self):
        self.assert_yes([is_empty(job) for job in EMPTY_JOBS])
        self.assert_no([is_empty(job) for job in (0, 5, A, P, HUGE, ('seq', (('par', ()), 0)), ('copies', 10 ** 30, 0))])


class UsageTest(Checks):
    def test_example(self):
        self.assertEqual([net(C), lowest(C), lowest(('repeat', 1000, ('seq', (2, -3))))], [3, -1, -1000])

    def test_nets(self):
        jobs = (5, -5, 0, A, B, D, P, HUGE, ('repeat', 0, A), ('copies', 7, A), ('copies', 10 ** 30, 10 ** 30))
        self.assertEqual([net(job) for job in jobs],
                         [5, -5, 0, 2, 1, -10 ** 6, 10, -7 * 10 ** 30, 0, 14, 10 ** 60])

    def test_lowest(self):
        rows = (
            (5, 0), (0, 0), (-5, -5), (A, 0), (B, -1), (('seq', (2, B)), 0), (('seq', (-2, B, -4)), -5),
            (('par', (B, B, A)), -2), (P, 0), (('repeat', 5, B), -1), (('repeat', 5, ('seq', (4, -6, 1))), -6),
            (('repeat', 1, ('seq', (4, -6, 1))), -2), (('repeat', 0, -5), 0), (('copies', 5, B), -5),
            (('copies', 0, -5), 0), (HUGE, -7 * 10 ** 30), (('repeat', 10 ** 30, -10 ** 30), -10 ** 60),
            (('repeat', 10 ** 29, ('seq', (-9, 10))), -9), (('copies', 10 ** 29, ('seq', (-9, 10))), -9 * 10 ** 29),
        )
        self.assertEqual([lowest(job) for job, _ in rows], [low for _, low in rows])

    def test_empty_jobs(self):
        for job in EMPTY_JOBS:
            self.assertEqual((net(job), lowest(job)), (0, 0))

    def test_all_states(self):
        for job in random_jobs(12, 300, 9):
            order = Order(job)
            self.assertEqual(net(job), order.usage(order.full))
            self.assertEqual(lowest(job), min(order.usage(state) for state in order.states()))


class MirrorTest(Checks):
    def test_example(self):
        self.assert_same(mirror(('par', (A, ('repeat', 4, ('seq', (1, -2)))))),
                         ('par', (('seq', (3, -5)), ('repeat', 4, ('seq', (2, -1))))))

    def test_forms(self):
        self.assert_same(mirror(0), 0)
        self.assert_same(mirror(('copies', 10 ** 29, ('seq', (1, ('par', (2, B)), -10 ** 30)))),
                         ('copies', 10 ** 29, ('seq', (10 ** 30, ('par', (-2, ('seq', (-2, 4, -3)))), -1))))
        self.assert_same(mirror(('seq', (('seq', ()), ('repeat', 0, ('seq', (1, 2)))))),
                         ('seq', (('repeat', 0, ('seq', (-2, -1))), ('seq', ()))))

    def test_twice(self):
        for job in random_jobs(13, 100, 9) + [C, D, P, HUGE]:
            self.assert_same(mirror(mirror(job)), job)

    def test_runs_backwards(self):
        for job in random_jobs(14, 60, 5):
            order = Order(job)
            back = Order(mirror(job))
            forward = sorted([order.value[one] for one in run] for run in order.complete_runs())
            backward = sorted([-back.value[one] for one in reversed(run)] for run in back.complete_runs())
            self.assertEqual(forward, backward)


if __name__ == '__main__':
    unittest.main()
