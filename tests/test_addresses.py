"""Promises 2.1, 2.2 and 2.4: addresses, the order of steps, and small jobs."""

import unittest

from roomprofile.errors import InvalidAddress, InvalidJob
from roomprofile.jobs.addresses import MAX_SMALL, all_addresses, is_address, precedes, step_value
from tests.checks import Checks
from tests.reference import is_before, random_jobs, steps_of
from tests.values import A, B, C, D, EMPTY_HUGE, HUGE, LARGE, NO_JOBS, P, SMALL, STRANGE, WIDE

NO_ADDRESSES_OF_C = STRANGE + (
    (), (0,), (1,), (2, 0), (0, 2), (1, 3), (-1, 0), (0, -1), (1, -1), (0, 0, 0), (1, 2, 0), (True, 0), (0, True),
    (False, 0), (0, False), [0, 0], (0, None), (0, '0'), (0, (0,)), (10 ** 70, 0), (0, 10 ** 70), ((0, 0),), 0, 1,
)


class AddressTest(Checks):
    def test_constant(self):
        self.assertEqual(MAX_SMALL, 400)

    def test_example(self):
        values = [is_address(C, (1, 2)), is_address(C, (0, 2)), step_value(C, (1, 1)), step_value(P, (1, 0))]
        self.assertEqual(values, [True, False, -4, 6])

    def test_a_step(self):
        self.assertIs(is_address(0, ()), True)
        self.assertEqual([step_value(0, ()), step_value(-7, ())], [0, -7])
        self.assert_no([is_address(5, value) for value in STRANGE + ((0,), (0, 0), 5, 0)])

    def test_other_values(self):
        self.assert_no([is_address(C, value) for value in NO_ADDRESSES_OF_C])
        for index, value in enumerate(NO_ADDRESSES_OF_C):
            with self.subTest(index=index):
                self.assert_raises_only(InvalidAddress, step_value, C, value)

    def test_rounds_and_copies(self):
        self.assert_yes([is_address(P, (0, 2)), is_address(P, (1, 2)), is_address(D, (999999, 1))])
        self.assert_no([is_address(P, (2, 0)), is_address(P, (-1, 0)), is_address(D, (10 ** 6, 0)), is_address(D, (0, 2))])
        self.assert_no([is_address(P, (True, 0)), is_address(D, (0, False)), is_address(P, (0,)), is_address(P, ())])
        self.assert_no([is_address(('repeat', 0, 5), value) for value in ((), (0,), (-1,), (0, 0))])

    def test_great_counts(self):
        most = 10 ** 15 - 1
        self.assert_yes([is_address(HUGE, (most, most, 0)), is_address(('copies', 10 ** 30, 5), (10 ** 30 - 1,))])
        self.assert_no([is_address(HUGE, (most, most + 1, 0)), is_address(('copies', 10 ** 30, 5), (10 ** 30,))])
        self.assertEqual(step_value(HUGE, (5, most, 0)), -7)
        self.assert_raises_only(InvalidAddress, step_value, HUGE, (0, 0, 1))
        self.assert_no([is_address(EMPTY_HUGE, value) for value in ((), (0,), (0, 0), (0, 0, 0), (0, 0, 1, 0))])

    def test_empty_parts_count(self):
        job = ('seq', (('par', ()), 5, ('repeat', 0, 1), ('copies', 2, ('seq', (('seq', ()), -5)))))
        self.assertEqual(all_addresses(job), ((1,), (3, 0, 1), (3, 1, 1)))
        self.assertEqual(step_value(job, (3, 1, 1)), -5)

    def test_wrong_jobs_come_first(self):
        for index, job in enumerate(NO_JOBS):
            with self.subTest(index=index):
                self.assert_raises_only(InvalidJob, is_address, job, ())
                self.assert_raises_only(InvalidJob, step_value, job, [])
                self.assert_raises_only(InvalidJob, precedes, job, (), None)
                self.assert_raises_only(InvalidJob, all_addresses, job)
        with self.assertRaises(InvalidJob):
            is_address(WIDE, ())


class PrecedesTest(Checks):
    def test_example(self):
        values = [precedes(C, (1, 0), (1, 2)), precedes(C, (0, 0), (1, 2)), precedes(C, (1, 0), (1, 0))]
        self.assertEqual(values, [True, False, False])

    def test_backwards(self):
        self.assert_no([precedes(C, (1, 2), (1, 0)), precedes(C, (1, 2), (0, 0)), precedes(5, (), ())])

    def test_great_counts(self):
        one = 10 ** 14
        self.assert_yes([precedes(HUGE, (one, 7, 0), (one, 8, 0)), precedes(D, (999, 1), (1000, 0))])
        self.assert_no([precedes(HUGE, (one, 7, 0), (one + 1, 8, 0)), precedes(HUGE, (one, 8, 0), (one, 7, 0)),
                        precedes(D, (1000, 0), (999, 1))])

    def test_the_outermost_difference_decides(self):
        job = ('seq', (('par', (A, B)), ('copies', 2, A)))
        self.assert_yes([precedes(job, (0, 1, 2), (1, 0, 0)), precedes(job, (1, 1, 0), (1, 1, 1))])
        self.assert_no([precedes(job, (1, 0, 0), (1, 1, 1)), precedes(job, (1, 0, 0), (0, 1, 2)),
                        precedes(job, (0, 0, 1), (0, 1, 0))])

    def test_all_pairs(self):
        for job in random_jobs(31, 150, 9):
            addresses = [address for address, _ in steps_of(job)]
            for first in addresses:
                for second in addresses:
                    self.assertIs(precedes(job, first, second), is_before(job, first, second))

    def test_wrong_addresses(self):
        for index, value in enumerate(NO_ADDRESSES_OF_C):
            with self.subTest(index=index):
                self.assert_raises_only(InvalidAddress, precedes, C, value, (0, 0))
                self.assert_raises_only(InvalidAddress, precedes, C, (0, 0), value)
                self.assert_raises_only(InvalidAddress, precedes, C, value, value)


class AllAddressesTest(Checks):
    def test_example(self):
        self.assert_same(all_addresses(C), ((0, 0), (0, 1), (1, 0), (1, 1), (1, 2)))

    def test_forms(self):
        self.assert_same(all_addresses(0), ((),))
        self.assert_same(all_addresses(('copies', 2, ('repeat', 2, 5))), ((0, 0), (0, 1), (1, 0), (1, 1)))
        for job in (('seq', ()), ('par', ()), EMPTY_HUGE, ('repeat', 0, HUGE), ('copies', 10 ** 30, ('par', ()))):
            self.assert_same(all_addresses(job), ())

    def test_all_steps(self):
        for job in random_jobs(32, 200, 12):
            self.assert_same(all_addresses(job), tuple(address for address, _ in steps_of(job)))
            self.assertEqual(tuple(sorted(all_addresses(job))), all_addresses(job))
            for address, step in steps_of(job):
                self.assertIs(is_address(job, address), True)
                self.assert_same(step_value(job, address), step)

    def test_small_jobs(self):
        self.assertEqual(len(all_addresses(SMALL)), 400)
        self.assertEqual(all_addresses(SMALL)[-1], (399,))
        self.assertEqual(len(all_addresses(('seq', (EMPTY_HUGE, ('copies', 20, ('repeat', 20, 1)))))), 400)
        for job in (LARGE, ('copies', 401, 0), ('seq', (('repeat', 400, 1), 0)), D, HUGE):
            self.assert_too_many(400, all_addresses, job)

    def test_a_small_job_of_many_nodes(self):
        job = ('repeat', 20, ('copies', 20, ('seq', (('seq', ()),) * 390 + (5,))))
        self.assertEqual(all_addresses(job)[-1], (19, 19, 390))


if __name__ == '__main__':
    unittest.main()
