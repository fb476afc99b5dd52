"""Promises 8.1 to 8.4: floors and barriers are found exactly where there are any."""

import itertools
import random

from roomprofile.barriers.find import find_barrier, find_floor
from roomprofile.barriers.judge import is_barrier, is_floor
from roomprofile.errors import InvalidJob
from roomprofile.jobs.jobs import mirror
from roomprofile.profiles.profiles import profile
from tests.checks import Checks
from tests.great import GREAT_JOBS, MOST
from tests.reference import Order, profile_of, random_job, random_jobs, uneven_job, uneven_jobs, value_at
from tests.reference_barriers import is_barrier_by_words, is_floor_by_words
from tests.values import A, B, C, D, EMPTY_HUGE, HUGE, NO_JOBS, NO_NUMBERS, NUMBER_EDGES, P, WIDE


class FindChecks(Checks):
    def assert_floor(self, job, capacity, low, there):
        floor = find_floor(job, capacity, low)
        if there:
            self.assertTrue(is_floor_by_words(job, capacity, low, floor), (job, capacity, low, floor))
            self.assertIs(is_floor(job, capacity, low, floor), True)
        else:
            self.assertIsNone(floor)

    def assert_barrier(self, job, capacity, there):
        barrier = find_barrier(job, capacity)
        if there:
            self.assertTrue(is_barrier_by_words(job, capacity, barrier), (job, capacity, barrier))
            self.assertIs(is_barrier(job, capacity, barrier), True)
        else:
            self.assertIsNone(barrier)

    def assert_all(self, job, known):
        """The job has floors and barriers exactly where this profile says that it has them."""
        total, peak, start, _ = known
        for capacity in range(-2, peak + 3):
            self.assert_barrier(job, capacity, capacity < peak)
        for capacity in range(-1, start[-1][0] + 2):
            for low in range(start[-1][1] - 1, 2):
                there = capacity >= 0 and low <= 0 and value_at(start, capacity) >= low
                self.assert_floor(job, capacity, low, there)


class FindTest(FindChecks):
    def test_examples(self):
        self.assertIsNone(find_floor(B, 3, 0))
        self.assertIsNone(find_barrier(C, 4))
        self.assertIs(is_barrier(C, 3, find_barrier(C, 3)), True)

    def test_small_jobs_state_by_state(self):
        for job in random_jobs(171, 300, 7) + random_jobs(172, 200, 8, levels=6, largest=3):
            self.assert_all(job, profile_of(job))

    def test_jobs_of_several_valleys_state_by_state(self):
        for job in uneven_jobs(178, 150):
            self.assert_all(job, profile_of(job))

    def test_either_a_floor_or_a_run(self):
        for job in random_jobs(173, 40, 5):
            order = Order(job)
            runs = [(order.peak(run), order.usage(run)) for run in order.runs()]
            for capacity in range(0, 9):
                lowest = min(low for peak, low in runs if peak <= capacity)
                for low in range(lowest - 1, 1):
                    self.assert_floor(job, capacity, low, lowest >= low)

    def test_either_a_barrier_or_a_complete_run(self):
        for job in random_jobs(174, 80, 6):
            order = Order(job)
            least = min(order.peak(run) for run in order.complete_runs())
            for capacity in range(-3, least + 3):
                self.assert_barrier(job, capacity, capacity < least)

    def test_parallel_parts_and_copies_that_go_down_and_up(self):
        source = random.Random(175)
        for _ in range(80):
            parts = tuple(('seq', tuple(source.randint(-9, 9) for _ in range(source.randint(1, 5)))) for _ in range(2))
            self.assert_all(('par', parts), profile_of(('par', parts)))
            self.assert_all(('copies', 2, parts[0]), profile_of(('copies', 2, parts[0])))

    def test_rounds_and_copies_of_both_directions(self):
        for steps in itertools.product((-3, -1, 2, 4), repeat=3):
            for n in range(4):
                for kind in ('repeat', 'copies'):
                    self.assert_all((kind, n, ('seq', steps)), profile_of((kind, n, ('seq', steps))))

    def test_rows_that_are_needed(self):
        slow = ('repeat', 9, ('seq', (-1, 3, -4)))
        self.assert_floor(slow, 1, -1, True)
        self.assert_floor(slow, 2, -1, False)
        self.assert_floor(('par', (slow, slow)), 0, -2, True)
        self.assert_barrier(('par', (slow, slow)), 0, True)
        self.assert_barrier(('par', (mirror(slow), mirror(slow))), 36, True)
        for job in (('copies', 5, slow), ('copies', 5, mirror(slow)), ('seq', (4, ('copies', 5, mirror(slow)), -9))):
            self.assert_barrier(job, profile(job)[1] - 1, True)
            self.assert_barrier(job, profile(job)[1], False)
        words = words_of(find_barrier(('par', (mirror(slow), mirror(slow))), 36))
        self.assertLessEqual({'mirror', 'front', 'first', 'seq', 'part', 'net'}, words)


class GreatJobsTest(FindChecks):
    def test_barriers(self):
        source = random.Random(176)
        for index, job in enumerate(GREAT_JOBS):
            for turned in (job, mirror(job)):
                with self.subTest(index=index):
                    total, peak, _, _ = profile(turned)
                    self.assert_barrier(turned, peak - 1, True)
                    self.assert_barrier(turned, peak, False)
                    self.assert_barrier(turned, 10 ** 61 - 1, False)
                    for capacity in (-1, total - 1, total, peak // 2, source.randint(0, peak)):
                        self.assert_barrier(turned, capacity, capacity < peak)

    def test_floors(self):
        for index, job in enumerate(GREAT_JOBS):
            for turned in (job, mirror(job)):
                with self.subTest(index=index):
                    start = profile(turned)[2]
                    for capacity, low in start[:3] + start[-3:]:
                        self.assert_floor(turned, capacity, low, True)
                        self.assert_floor(turned, capacity, low + 1, False)
                        self.assert_floor(turned, capacity - 1, low + 1, capacity > 0 and low < 0)
                        self.assert_floor(turned, capacity, low - 1, True)

    def test_great_counts(self):
        source = random.Random(177)
        for index in range(150):
            inner = random_job(source, 6) if index % 3 == 0 else uneven_job(source)
            count = source.randint(0, 10 ** 20)
            for kind in ('repeat', 'copies'):
                for job in ((kind, count, inner), ('seq', ((kind, count, inner), inner)), ('par', ((kind, count, inner), inner))):
                    _, peak, start, _ = profile(job)
                    self.assert_barrier(job, peak - 1, True)
                    self.assert_barrier(job, peak, False)
                    for capacity, low in start:
                        self.assert_floor(job, capacity, low, True)
                        self.assert_floor(job, capacity, low + 1, False)

    def test_copies_that_fit_where_fewer_do_not(self):
        job = ('seq', (-3, 5, -4))
        for n, capacity, there in ((1, 0, True), (1, 1, True), (1, 2, False), (2, 0, False), (10 ** 29, 0, False)):
            self.assert_barrier(('copies', n, job), capacity, there)

    def test_empty_jobs(self):
        for job in (('seq', ()), ('par', ()), ('repeat', 0, HUGE), EMPTY_HUGE, ('copies', MOST, ('seq', ()))):
            self.assert_barrier(job, -1, True)
            self.assert_barrier(job, 0, False)
            self.assert_floor(job, 0, 0, True)
            self.assert_floor(job, 0, 1, False)
            self.assert_floor(job, -1, 0, False)


def words_of(value):
    """All words in a floor or barrier."""
    if isinstance(value, tuple):
        return {word for part in value for word in words_of(part)}
    return {value} if isinstance(value, str) else set()


class WrongInputsTest(Checks):
    def test_numbers(self):
        for value in NO_NUMBERS:
            self.assert_invalid_number(value, find_floor, C, value, 0)
            self.assert_invalid_number(value, find_floor, C, value, None)
            self.assert_invalid_number(value, find_floor, C, 0, value)
            self.assert_invalid_number(value, find_floor, C, -1, value)
            self.assert_invalid_number(value, find_barrier, C, value)
        for value in NUMBER_EDGES:
            for job in (A, C, D, P, EMPTY_HUGE):
                self.assertEqual(find_barrier(job, value) is None, value >= profile(job)[1])
                self.assertEqual(find_floor(job, value, -10 ** 61 + 1) is None, value < 0)
                self.assertIsNone(find_floor(job, value, 10 ** 61 - 1))

    def test_wrong_jobs(self):
        for job in NO_JOBS:
            self.assert_raises_only(InvalidJob, find_floor, job, None, None)
            self.assert_raises_only(InvalidJob, find_floor, job, 0, 0)
            self.assert_raises_only(InvalidJob, find_barrier, job, None)
            self.assert_raises_only(InvalidJob, find_barrier, job, 0)
        self.assertRaises(InvalidJob, find_barrier, WIDE, 0)
        self.assertRaises(InvalidJob, find_floor, WIDE, 0, 0)
