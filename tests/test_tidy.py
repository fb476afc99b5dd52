"""Promise 1.5: tidy jobs."""

import unittest

from roomprofile.jobs.jobs import is_job, net, node_count, step_count, tidy
from tests.checks import Checks
from tests.reference import Order, random_jobs
from tests.values import A, B, C, D, EMPTY_HUGE, HUGE, P, nested

EMPTY = ('seq', ())


class TidyTest(Checks):
    def assert_tidy(self, job, expected):
        self.assert_same(tidy(job), expected)

    def test_example(self):
        self.assert_tidy(('seq', (('seq', (1, ('par', ()))), ('repeat', 1, 2), ('copies', 0, 3))), ('seq', (1, 2)))
        self.assert_tidy(('par', (A, 7, ('copies', 2, A))), ('par', (('copies', 3, A), 7)))

    def test_tidy_jobs_stay(self):
        for job in (0, 5, EMPTY, A, B, C, D, P, ('par', (5, -5)), ('par', (0, 1)), ('seq', (5, 5)), ('copies', 2, 0)):
            self.assert_tidy(job, job)

    def test_empty_jobs(self):
        for job in (('par', ()), ('repeat', 0, A), ('copies', 0, A), ('repeat', 5, ('seq', ())), EMPTY_HUGE,
                    ('par', (EMPTY, EMPTY)), ('seq', (EMPTY, ('par', ()))), ('repeat', 1, EMPTY),
                    ('copies', 10 ** 30, ('repeat', 0, ('copies', 10 ** 30, 1))), nested('par', 12, EMPTY)):
            self.assert_tidy(job, EMPTY)

    def test_empty_parts(self):
        self.assert_tidy(('par', (EMPTY, 5, ('copies', 0, 3), -5, ('par', ()))), ('par', (5, -5)))
        self.assert_tidy(('seq', (('repeat', 0, 3), 5, EMPTY, 0)), ('seq', (5, 0)))
        self.assert_tidy(('par', (EMPTY, A)), A)

    def test_parts_of_the_same_kind(self):
        self.assert_tidy(('seq', (1, ('seq', (2, ('seq', (3, 4)))), ('par', (5, 6)))), ('seq', (1, 2, 3, 4, ('par', (5, 6)))))
        self.assert_tidy(('par', (1, ('par', (2, ('par', (3, 4)))), A)), ('par', (1, 2, 3, 4, A)))
        self.assert_tidy(('par', (('seq', (1, 2)), ('seq', (('par', (3, 4)),)))), ('par', (('seq', (1, 2)), 3, 4)))
        self.assert_tidy(('seq', (1, ('repeat', 1, ('seq', (2, 3))))), ('seq', (1, 2, 3)))
        self.assert_tidy(('seq', (1, ('repeat', 2, ('seq', (2, 3))))), ('seq', (1, ('repeat', 2, ('seq', (2, 3))))))

    def test_repeats_and_copies(self):
        self.assert_tidy(('repeat', 2, ('repeat', 3, A)), ('repeat', 6, A))
        self.assert_tidy(('copies', 2, ('copies', 3, ('copies', 4, A))), ('copies', 24, A))
        self.assert_tidy(('copies', 2, ('repeat', 3, A)), ('copies', 2, ('repeat', 3, A)))
        self.assert_tidy(('repeat', 2, ('copies', 3, A)), ('repeat', 2, ('copies', 3, A)))
        self.assert_tidy(('repeat', 2, ('seq', (('repeat', 3, A),))), ('repeat', 6, A))
        self.assert_tidy(('repeat', 2, ('copies', 1, ('repeat', 3, A))), ('repeat', 6, A))
        self.assert_tidy(('repeat', 1, ('repeat', 3, A)), ('repeat', 3, A))
        self.assert_tidy(('repeat', 3, ('repeat', 1, A)), ('repeat', 3, A))
        self.assert_tidy(('repeat', 1, ('copies', 1, 5)), 5)
        self.assert_tidy(('copies', 10 ** 15, ('par', (('copies', 10 ** 15, 1),))), ('copies', 10 ** 30, 1))
        self.assert_tidy(HUGE, ('copies', 10 ** 15, ('repeat', 10 ** 15, -7)))

    def test_equal_parts(self):
        self.assert_tidy(('par', (5, 5)), ('copies', 2, 5))
        self.assert_tidy(('par', (7, A, 8, A, ('copies', 3, A), 7)), ('par', (('copies', 2, 7), ('copies', 5, A), 8)))
        self.assert_tidy(('par', (('copies', 3, A), 1, ('copies', 10 ** 29, A))), ('par', (('copies', 10 ** 29 + 3, A), 1)))
        self.assert_tidy(('par', (('copies', 1, A), ('seq', (('seq', (5,)), -3)))), ('copies', 2, A))
        self.assert_tidy(('par', (('repeat', 2, A), ('repeat', 2, A), ('repeat', 3, A))),
                         ('par', (('copies', 2, ('repeat', 2, A)), ('repeat', 3, A))))
        self.assert_tidy(('copies', 2, ('par', (A, A))), ('copies', 4, A))
        self.assert_tidy(('par', (('par', (A, 1)), ('par', (1, A)))), ('par', (('copies', 2, A), ('copies', 2, 1))))
        self.assert_tidy(('par', (('copies', 2, ('par', (1, 2))), 1)), ('par', (('copies', 2, ('par', (1, 2))), 1)))
        self.assert_tidy(('seq', (A, ('par', (5, 5)), A)), ('seq', (5, -3, ('copies', 2, 5), 5, -3)))

    def test_equal_parts_of_a_seq_stay(self):
        self.assert_tidy(('seq', (('copies', 2, 5), ('copies', 2, 5), 5)), ('seq', (('copies', 2, 5), ('copies', 2, 5), 5)))

    def test_one_part(self):
        self.assert_tidy(nested('seq', 12, 5), 5)
        self.assert_tidy(('par', (('seq', (('par', (A,)),)),)), A)

    def test_many_parts(self):
        self.assert_tidy(('par', tuple(range(399))), ('par', tuple(range(399))))
        self.assert_tidy(('par', (('seq', (5,)),) * 199), ('copies', 199, 5))

    def test_result_that_is_nested_too_deep(self):
        def deep(levels):
            """The equal parts of the inner par become copies, which are one level more."""
            value = ('par', (('seq', (1, 2)), ('seq', (1, 2)), 3))
            for level in range(levels):
                value = (('seq', 'par')[level % 2], (9, value))
            return value
        self.assertTrue(is_job(deep(10)))
        self.assertTrue(is_job(tidy(deep(9))))
        self.assert_too_many(400, tidy, deep(10))

    def test_deep_job_that_becomes_flat(self):
        core = ('par', (('seq', (1, 2)), ('seq', (1, 2)), 3))
        self.assert_tidy(nested('seq', 10, core), ('par', (('copies', 2, ('seq', (1, 2))), 3)))

    def test_a_tidy_job_is_tidy(self):
        for job in random_jobs(21, 400, 10, largest=1):
            once = tidy(job)
            self.assert_same(tidy(once), once)
            self.assertEqual((step_count(once), net(once)), (step_count(job), net(job)))
            self.assertLessEqual(node_count(once), node_count(job))

    def test_the_same_steps_in_the_same_order(self):
        for job in random_jobs(22, 120, 5, largest=2):
            first = Order(job)
            second = Order(tidy(job))
            runs = [sorted([order.value[one] for one in run] for run in order.complete_runs()) for order in (first, second)]
            self.assertEqual(*runs)


if __name__ == '__main__':
    unittest.main()
