"""Promises 5.1 to 5.4: the profile of a job, its lows at a capacity, and the normal form of a profile."""

import itertools
import random

from roomprofile.errors import InvalidJob, InvalidProfile
from roomprofile.jobs.jobs import lowest, mirror, net, tidy
from roomprofile.profiles.basic import seq_profiles, step_profile
from roomprofile.profiles.beside import par_profiles
from roomprofile.profiles.many import copies_profile, repeat_profile
from roomprofile.profiles.profiles import end_low, is_profile, normal_form, profile, start_low
from tests.changes import changes_of
from tests.checks import Checks
from tests.great import GREAT_JOBS, MOST, zigzag
from tests.reference import (
    Order, is_profile_by_words, normal_steps, profile_of, random_job, random_jobs, random_profile, reversed_profile,
    uneven_jobs,
)
from tests.values import A, B, C, D, EMPTY_HUGE, HUGE, NO_JOBS, NO_NUMBERS, NUMBER_EDGES, P, WIDE, nested
from tests.wrong_valleys import HUGE_NUMBER, NO_PROFILES, PROFILES

NOTHING = (0, 0, ((0, 0),), ((0, 0),))


class ProfileTest(Checks):
    def test_examples(self):
        self.assert_same(profile(A), (2, 5, ((0, 0),), ((2, 2), (5, 0))))
        self.assert_same(profile(('seq', (-10, 7, -2))), (-5, 0, ((0, -10),), ((-5, -5), (-3, -10))))
        self.assert_same(profile(C), (3, 4, ((0, 0), (3, -1)), ((3, 1), (4, -1))))
        self.assert_same(profile(D), (-10 ** 6, 2, ((0, 0), (2, -10 ** 6)), ((-10 ** 6, -10 ** 6),)))
        self.assert_same(profile(P), (10, 10, ((0, 0),), ((10, 0),)))

    def test_small_jobs_state_by_state(self):
        for job in random_jobs(101, 400, 8) + random_jobs(102, 200, 9, levels=6, largest=3) + uneven_jobs(117, 200):
            self.assert_same(profile(job), profile_of(job))

    def test_the_peak_is_that_of_the_best_complete_run(self):
        for job in random_jobs(103, 120, 6):
            order = Order(job)
            self.assertEqual(profile(job)[1], min(order.peak(run) for run in order.complete_runs()))

    def test_empty_jobs(self):
        for job in (('seq', ()), ('par', ()), ('repeat', 0, HUGE), ('copies', 0, 5), EMPTY_HUGE, nested('par', 11, ('seq', ()))):
            self.assert_same(profile(job), NOTHING)

    def test_mirrors(self):
        for job in random_jobs(104, 200, 9) + uneven_jobs(118, 200) + list(GREAT_JOBS):
            self.assert_same(profile(mirror(job)), reversed_profile(profile(job)))

    def test_great_jobs(self):
        for index, job in enumerate(GREAT_JOBS):
            with self.subTest(index=index):
                result = profile(job)
                self.assertTrue(is_profile_by_words(result))
                self.assertEqual((result[0], result[2][-1][1]), (net(job), lowest(job)))
                self.assert_same(profile(tidy(job)), result)

    def test_parts_of_great_counts(self):
        source = random.Random(105)
        for job in random_jobs(106, 100, 5) + uneven_jobs(119, 150):
            first = source.randint(0, 10 ** 28)
            second = source.choice([0, 1, 2, source.randint(0, 10 ** 28)])
            for kind, outer in (('repeat', 'seq'), ('copies', 'par')):
                parts = (outer, ((kind, first, job), (kind, second, job)))
                self.assert_same(profile(parts), profile((kind, first + second, job)))

    def test_the_profile_depends_on_the_profiles_of_the_parts(self):
        source = random.Random(107)
        for job in random_jobs(108, 100, 7) + uneven_jobs(120, 100):
            steps = ('seq', normal_form(profile(job)))
            other = random_job(source, 5)
            for kind in ('repeat', 'copies'):
                count = source.choice([0, 1, 2, 3, 10 ** 20])
                self.assert_same(profile((kind, count, job)), profile((kind, count, steps)))
            for kind in ('seq', 'par'):
                self.assert_same(profile((kind, (job, other, job))), profile((kind, (steps, other, steps))))

    def test_the_functions_of_the_other_modules(self):
        for job in random_jobs(109, 100, 6):
            inner = profile(job)
            self.assert_same(profile(('repeat', 10 ** 9, job)), repeat_profile(10 ** 9, inner))
            self.assert_same(profile(('copies', 10 ** 9, job)), copies_profile(10 ** 9, inner))
            self.assert_same(profile(('seq', (job, A, job))), seq_profiles((inner, profile(A), inner)))
            self.assert_same(profile(('par', (job, A, job))), par_profiles((inner, profile(A), inner)))
        for step in (0, 5, -5, MOST, -MOST):
            self.assert_same(profile(step), step_profile(step))

    def test_the_longest_valleys(self):
        steps = []
        for at in range(199):
            steps += [2 * at + 1, -2 * at - 2]
        result = profile(('seq', tuple(steps)))
        self.assertEqual(len(result[2]), 200)
        self.assertEqual(len(profile(mirror(('seq', tuple(steps))))[3]), 200)

    def test_wrong_jobs(self):
        for index, value in enumerate(NO_JOBS):
            with self.subTest(index=index):
                self.assert_raises_only(InvalidJob, profile, value)
                self.assert_raises_only(InvalidJob, start_low, value, 0)
                self.assert_raises_only(InvalidJob, end_low, value, None)
        for function in (profile, lambda job: start_low(job, 0), lambda job: end_low(job, 0)):
            self.assertRaises(InvalidJob, function, WIDE)


class LowsTest(Checks):
    def test_examples(self):
        self.assert_same([start_low(B, 2), start_low(B, 3), end_low(B, 0), end_low(B, 1)], [0, -1, None, -1])

    def test_small_jobs_run_by_run(self):
        for job in random_jobs(111, 60, 5) + [A, B, ('seq', ()), ('copies', 2, ('seq', (1, -2)))]:
            order = Order(job)
            runs = [(order.peak(run), order.usage(run)) for run in order.runs()]
            ends = [(order.peak(run, state), order.usage(state))
                    for state in order.states() for run in order.complete_runs(state)]
            for capacity in range(-14, 15):
                starts_there = [low for peak, low in runs if peak <= capacity]
                ends_there = [low for peak, low in ends if peak <= capacity]
                self.assert_same(start_low(job, capacity), min(starts_there, default=None))
                self.assert_same(end_low(job, capacity), min(ends_there, default=None))

    def test_edges_of_the_capacity(self):
        for job in (A, B, C, D, HUGE, EMPTY_HUGE):
            self.assertIsNone(start_low(job, -1))
            self.assertIsNotNone(start_low(job, 0))
            self.assertIsNone(end_low(job, net(job) - 1))
            self.assertIsNotNone(end_low(job, net(job)))
            for capacity in NUMBER_EDGES:
                start_low(job, capacity)
                end_low(job, capacity)
            self.assert_same([start_low(job, 10 ** 61 - 1), end_low(job, 10 ** 61 - 1)], [lowest(job)] * 2)

    def test_great_jobs(self):
        for job in GREAT_JOBS:
            _, _, start, end = profile(job)
            for function, pairs in ((start_low, start), (end_low, end)):
                for (capacity, low), before in zip(pairs, ((None, None),) + pairs):
                    self.assert_same([function(job, capacity), function(job, capacity - 1)], [low, before[1]])

    def test_wrong_numbers(self):
        for function in (start_low, end_low):
            for value in NO_NUMBERS:
                self.assert_invalid_number(value, function, C, value)


class IsProfileTest(Checks):
    def test_examples(self):
        self.assertIs(is_profile((0, 5, ((0, 0),), ((0, 0),))), True)
        self.assertIs(is_profile((0, 5, ((0, 0), (6, -1)), ((0, -1),))), False)

    def test_values(self):
        self.assert_yes([is_profile(value) for value in PROFILES])
        self.assert_no([is_profile(value) for value in NO_PROFILES + (WIDE,)])

    def test_what_the_program_returns(self):
        self.assert_yes([is_profile(profile(job)) for job in random_jobs(112, 200, 9) + list(GREAT_JOBS)])

    def test_one_part_changed(self):
        source = random.Random(113)
        found = [0, 0]
        for _ in range(60):
            value = random_profile(source, 3)
            self.assertIs(is_profile(value), True)
            for other in changes_of(value):
                expected = has_kinds_of_a_profile(other) and is_profile_by_words(other)
                self.assertIs(is_profile(other), expected, other)
                found[expected] += 1
        self.assertGreater(min(found), 100)


def has_kinds_of_a_profile(value):
    """Whether the value has integers and tuples where a profile has them."""
    if value.__class__ is not tuple or len(value) != 4 or [part.__class__ for part in value] != [int, int, tuple, tuple]:
        return False
    pairs = value[2] + value[3]
    return all(pair.__class__ is tuple and [part.__class__ for part in pair] == [int, int] for pair in pairs)


class NormalFormTest(Checks):
    def test_examples(self):
        self.assert_same(normal_form((3, 4, ((0, 0), (3, -1)), ((3, 1), (4, -1)))), (3, -4, 5, -3, 2))
        self.assert_same(normal_form((0, 5, ((0, 0),), ((0, 0),))), (5, -5))
        self.assert_same(normal_form(NOTHING), ())
        for step in (5, -5, MOST):
            self.assert_same(normal_form(step_profile(step)), (step,))

    def test_the_words_of_the_document(self):
        source = random.Random(114)
        for _ in range(500):
            value = random_profile(source, 6)
            self.assert_same(normal_form(value), normal_steps(value))
        for value in PROFILES:
            self.assert_same(normal_form(value), normal_steps(value))

    def test_its_steps_have_the_profile(self):
        source = random.Random(115)
        for _ in range(300):
            value = random_profile(source, 6)
            self.assert_same(profile(('seq', normal_form(value))), value)
        for value in PROFILES:
            steps = tuple(step_profile(step) for step in normal_form(value) if abs(step) < 10 ** 61)
            if len(steps) == len(normal_form(value)) <= 400:
                self.assert_same(seq_profiles(steps), value)

    def test_it_is_the_shortest_one(self):
        for many in range(5):
            for steps in itertools.product((-3, -2, -1, 1, 2, 3), repeat=many):
                shortest = normal_form(profile(('seq', steps)))
                self.assertTrue(shortest == steps or len(shortest) < len(steps))

    def test_it_may_exceed_a_job(self):
        long = (-399, 399, tuple((index, -index) for index in range(400)), ((-399, -399),))
        steps = normal_form(long)
        self.assertEqual(len(steps), 798)
        halves = (seq_profiles(tuple(step_profile(step) for step in part)) for part in (steps[:399], steps[399:]))
        self.assert_same(seq_profiles(tuple(halves)), long)
        self.assert_same(normal_form(step_profile(10 ** 61 - 1)), (10 ** 61 - 1,))
        value = (HUGE_NUMBER, HUGE_NUMBER, ((0, 0),), ((HUGE_NUMBER, 0),))
        self.assert_same(normal_form(value), (HUGE_NUMBER,))

    def test_great_jobs(self):
        for job in GREAT_JOBS:
            steps = normal_form(profile(job))
            self.assertFalse(0 in steps)
            if len(steps) < 400:
                self.assert_same(seq_profiles(tuple(step_profile(step) for step in steps)), profile(job))

    def test_wrong_profiles(self):
        for index, value in enumerate(NO_PROFILES):
            with self.subTest(index=index):
                self.assert_raises_only(InvalidProfile, normal_form, value)
        self.assertRaises(InvalidProfile, normal_form, WIDE)

    def test_long_sequences(self):
        source = random.Random(116)
        for _ in range(20):
            steps = zigzag(399, source)
            self.assert_same(profile(('seq', normal_form(profile(('seq', steps))))), profile(('seq', steps)))
