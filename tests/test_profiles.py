"""Promises 5.1 to 5.4: the profiles of steps, of sequences and of parallel jobs."""

import itertools
import random
import unittest

from roomprofile.errors import InvalidProfile
from roomprofile.jobs.jobs import mirror
from roomprofile.profiles.basic import seq_profiles, step_profile
from roomprofile.profiles.beside import par_profiles
from tests.checks import Checks
from tests.reference import (
    is_profile_by_words, normal_steps, profile_of, random_job, random_jobs, random_profile, reversed_profile,
)
from tests.values import A, B, C, D, NO_NUMBERS, P
from tests.wrong_valleys import HUGE_NUMBER, NO_PROFILES, PROFILES, stairs

NOTHING = (0, 0, ((0, 0),), ((0, 0),))
BOTH = (seq_profiles, par_profiles)


def steps_profile(steps):
    return seq_profiles(tuple(step_profile(step) for step in steps))


def composed(job):
    """The profile of a job from the profiles of its parts."""
    if isinstance(job, int):
        return step_profile(job)
    if job[0] in ('seq', 'par'):
        parts = tuple(composed(part) for part in job[1])
    else:
        parts = (composed(job[2]),) * job[1]
    return seq_profiles(parts) if job[0] in ('seq', 'repeat') else par_profiles(parts)


def falling(many):
    """The profile of a job that goes down by one more at each capacity, with many + 1 start valleys."""
    return (-many, many, stairs(many + 1), ((-many, -many),))


def in_turn(advances):
    """Two profiles whose joint start valleys have one more pair than they go down in turn."""
    climbs = range(4, 4 + 2 * advances, 2)
    found = []
    for first in (0, 1):
        rows = [(0, 0)] + [(climb - at, -at - 1) for at, climb in enumerate(climbs[first::2])]
        low = rows[-1][1]
        found.append((low, rows[-1][0], tuple(rows), ((low, low),)))
    return tuple(found)


class StepTest(Checks):
    def test_examples(self):
        self.assert_same(step_profile(5), (5, 5, ((0, 0),), ((5, 0),)))
        self.assert_same(step_profile(-3), (-3, 0, ((0, -3),), ((-3, -3),)))

    def test_edges(self):
        self.assert_same(step_profile(0), NOTHING)
        most = 10 ** 61 - 1
        self.assert_same(step_profile(most), (most, most, ((0, 0),), ((most, 0),)))
        self.assert_same(step_profile(-most), (-most, 0, ((0, -most),), ((-most, -most),)))
        for step in range(-4, 5):
            self.assert_same(step_profile(step), profile_of(step))

    def test_wrong_numbers(self):
        for index, value in enumerate(NO_NUMBERS):
            with self.subTest(index=index):
                self.assert_invalid_number(value, step_profile, value)


class WrongProfilesTest(Checks):
    def test_profiles(self):
        for index, value in enumerate(PROFILES):
            with self.subTest(index=index):
                self.assertTrue(is_profile_by_words(value))
                for function in BOTH:
                    self.assert_same(function((value,)), value)
                    self.assert_same(function((value, NOTHING)), value)

    def test_other_values(self):
        for index, value in enumerate(NO_PROFILES):
            with self.subTest(index=index):
                for function in BOTH:
                    self.assert_raises_only(InvalidProfile, function, (value,))
                    self.assert_raises_only(InvalidProfile, function, (NOTHING, value))
                    self.assert_raises_only(InvalidProfile, function, [value])

    def test_no_tuple(self):
        for value in (None, 5, True, [], [NOTHING], {}, 'ab', NOTHING, {NOTHING: NOTHING}):
            for function in BOTH:
                self.assert_raises_only(InvalidProfile, function, value)

    def test_how_many(self):
        for function in BOTH:
            self.assert_same(function((NOTHING,) * 400), NOTHING)
            self.assert_raises_only(InvalidProfile, function, (NOTHING,) * 401)

    def test_wrong_profiles_come_before_long_results(self):
        long = (falling(399), step_profile(799), step_profile(-800))
        for function in BOTH:
            self.assert_raises_only(InvalidProfile, function, long + (None,))


class SeqTest(Checks):
    def test_examples(self):
        self.assert_same(steps_profile((3, -4, 2)), (1, 3, ((0, 0), (3, -1)), ((1, -1),)))
        self.assert_same(seq_profiles(()), NOTHING)
        self.assert_same(steps_profile((5, -3)), (2, 5, ((0, 0),), ((2, 2), (5, 0))))
        self.assert_same(steps_profile((-10, 7, -2)), (-5, 0, ((0, -10),), ((-5, -5), (-3, -10))))
        self.assert_same(steps_profile((2, -3) * 50), (-50, 2, ((0, 0), (2, -50)), ((-50, -50),)))

    def test_integers_of_any_size(self):
        profile = (HUGE_NUMBER, HUGE_NUMBER, ((0, 0),), ((HUGE_NUMBER, 0),))
        self.assert_same(seq_profiles((profile,) * 3), (3 * HUGE_NUMBER, 3 * HUGE_NUMBER, ((0, 0),), ((3 * HUGE_NUMBER, 0),)))
        self.assert_same(par_profiles((profile,) * 3), (3 * HUGE_NUMBER, 3 * HUGE_NUMBER, ((0, 0),), ((3 * HUGE_NUMBER, 0),)))
        most = 10 ** 61 - 1
        self.assert_same(steps_profile((most,) * 100), (100 * most, 100 * most, ((0, 0),), ((100 * most, 0),)))

    def test_grouping_does_not_matter(self):
        source = random.Random(81)
        for _ in range(200):
            profiles = tuple(random_profile(source) for _ in range(source.randint(0, 5)))
            cut = source.randint(0, len(profiles))
            for function in BOTH:
                halves = (function(profiles[:cut]), function(profiles[cut:]))
                self.assert_same(function(halves), function(profiles))

    def test_long_results(self):
        self.assert_same(seq_profiles((falling(398), step_profile(797), step_profile(-798))), falling(399))
        long = (falling(399), step_profile(799), step_profile(-800))
        self.assert_too_many(400, seq_profiles, long)
        self.assert_too_many(400, seq_profiles, long + (step_profile(-10 ** 9),))
        back = tuple(reversed_profile(profile) for profile in reversed(long))
        self.assert_too_many(400, seq_profiles, back)
        self.assert_same(seq_profiles((step_profile(798), step_profile(-797), reversed_profile(falling(398)))),
                         reversed_profile(falling(399)))

    def test_valleys_that_are_longer_on_the_way(self):
        long = (falling(399), step_profile(799), step_profile(-800))
        back = tuple(reversed_profile(profile) for profile in reversed(long))
        high = 10 ** 6
        hill = (0, high, ((0, 0),), ((0, 0),))
        self.assert_same(seq_profiles((hill,) + long), (-400, high, ((0, 0), (high, -400)), ((-400, -400),)))
        self.assert_same(seq_profiles(back + (hill,)), (400, high + 400, ((0, 0),), ((400, 400), (high + 400, 0))))

    def test_many_long_profiles(self):
        total = -399 * 400
        self.assert_same(seq_profiles((falling(399),) * 400), (total, 399, stairs(399) + ((399, total),), ((total, total),)))
        hill = (0, 10 ** 9, ((0, 0),), ((0, 0),))
        result = seq_profiles((hill,) + (falling(399),) * 399)
        self.assert_same(result, (-399 ** 2, 10 ** 9, ((0, 0), (10 ** 9, -399 ** 2)), ((-399 ** 2, -399 ** 2),)))
        rising = reversed_profile(falling(399))
        result = seq_profiles((rising,) * 399 + (hill,))
        total = 399 ** 2
        self.assert_same(result, (total, total + 10 ** 9, ((0, 0),), ((total, total), (total + 10 ** 9, 0))))


class ParTest(Checks):
    def test_examples(self):
        self.assert_same(par_profiles((steps_profile((5, -3)), steps_profile((3, -4, 2)))),
                         (3, 4, ((0, 0), (3, -1)), ((3, 1), (4, -1))))
        self.assert_same(par_profiles(()), NOTHING)
        self.assert_same(par_profiles((steps_profile((6, -5, 4)),) * 2), (10, 10, ((0, 0),), ((10, 0),)))

    def test_the_order_of_the_profiles_does_not_matter(self):
        source = random.Random(82)
        for _ in range(200):
            profiles = [random_profile(source) for _ in range(source.randint(0, 4))]
            expected = par_profiles(tuple(profiles))
            source.shuffle(profiles)
            self.assert_same(par_profiles(tuple(profiles)), expected)

    def test_one_peak_while_the_others_are_lowest(self):
        deep = steps_profile((-10, 12))
        hill = steps_profile((9, -9))
        self.assert_same(par_profiles((deep, hill)), (2, 2, ((0, -10),), ((2, -10),)))
        self.assert_same(par_profiles((deep, deep, hill)), (4, 4, ((0, -20),), ((4, -20),)))
        self.assert_same(par_profiles((hill, hill)), (0, 9, ((0, 0),), ((0, 0),)))

    def test_long_results(self):
        for advances in (398, 399):
            profiles = in_turn(advances)
            start = ((0, 0),) + tuple((at + 3, -at) for at in range(1, advances + 1))
            result = (-advances, advances + 3, start, ((-advances, -advances),))
            self.assert_same(par_profiles(profiles), result)
            back = tuple(reversed_profile(profile) for profile in profiles)
            self.assert_same(par_profiles(back), reversed_profile(result))
        profiles = in_turn(400)
        self.assert_too_many(400, par_profiles, profiles)
        self.assert_too_many(400, par_profiles, tuple(reversed_profile(profile) for profile in profiles))

    def test_valleys_that_are_longer_on_the_way(self):
        profiles = in_turn(700)
        deep = 10 ** 6
        well = (0, 0, ((0, -deep),), ((0, -deep),))
        total = -700
        result = par_profiles(profiles + (well,))
        self.assert_same(result, (total, 0, ((0, total - deep),), ((total, total - deep),)))
        back = tuple(reversed_profile(profile) for profile in profiles) + (well,)
        self.assert_same(par_profiles(back), reversed_profile(result))

    def test_many_long_profiles(self):
        falls = par_profiles((falling(399),) * 400)
        self.assert_same(falls, (-399 * 400, 1, ((0, 0), (1, -399 * 400)), ((-399 * 400, -399 * 400),)))


class ProfileOfJobsTest(Checks):
    def test_the_examples(self):
        for job in (A, B, C, P, ('seq', (-10, 7, -2)), ('copies', 3, A), ('repeat', 3, B)):
            self.assert_same(composed(job), profile_of(job))
        self.assert_same(composed(('repeat', 20, D[2])), (-20, 2, ((0, 0), (2, -20)), ((-20, -20),)))

    def test_small_jobs_state_by_state(self):
        for job in random_jobs(83, 500, 8) + random_jobs(84, 200, 10, levels=5, largest=3):
            profile = composed(job)
            self.assert_same(profile, profile_of(job))
            self.assertTrue(is_profile_by_words(profile))

    def test_parallel_sequences_state_by_state(self):
        source = random.Random(85)
        for _ in range(300):
            parts = tuple(('seq', tuple(source.randint(-9, 9) for _ in range(source.randint(1, 6))))
                          for _ in range(source.randint(2, 3)))
            self.assert_same(composed(('par', parts)), profile_of(('par', parts)))

    def test_mirrors(self):
        for job in random_jobs(86, 200, 8):
            self.assert_same(composed(mirror(job)), reversed_profile(composed(job)))

    def test_the_profile_depends_on_the_profiles_of_the_parts(self):
        source = random.Random(87)
        for _ in range(100):
            jobs = [random_job(source, source.randint(1, 5)) for _ in range(3)]
            normal = [('seq', normal_steps(profile_of(job))) for job in jobs]
            for kind in ('seq', 'par'):
                self.assert_same(profile_of((kind, tuple(jobs))), composed((kind, tuple(normal))))


class NormalStepsTest(Checks):
    def test_each_value_of_this_form_is_the_profile_of_some_steps(self):
        source = random.Random(88)
        for _ in range(500):
            profile = random_profile(source)
            self.assertTrue(is_profile_by_words(profile))
            self.assert_same(steps_profile(normal_steps(profile)), profile)

    def test_the_shortest_steps_are_unique(self):
        self.assertEqual(normal_steps((3, 4, ((0, 0), (3, -1)), ((3, 1), (4, -1)))), (3, -4, 5, -3, 2))
        self.assertEqual(normal_steps((0, 5, ((0, 0),), ((0, 0),))), (5, -5))
        for many in range(5):
            for steps in itertools.product((-3, -2, -1, 1, 2, 3), repeat=many):
                shortest = normal_steps(steps_profile(steps))
                self.assertTrue(shortest == steps or len(shortest) < len(steps))

    def test_composition_is_that_of_the_steps(self):
        source = random.Random(89)
        for _ in range(120):
            profiles = tuple(random_profile(source, 3) for _ in range(2))
            jobs = tuple(('seq', normal_steps(profile)) for profile in profiles)
            self.assert_same(seq_profiles(profiles), profile_of(('seq', jobs)))
            self.assert_same(par_profiles(profiles), profile_of(('par', jobs)))


if __name__ == '__main__':
    unittest.main()
