"""Promises 5.1 to 5.4: the profiles of many rounds and of many copies."""

import random

from roomprofile.errors import InvalidProfile
from roomprofile.profiles.basic import seq_profiles, step_profile
from roomprofile.profiles.beside import par_profiles
from roomprofile.profiles.many import copies_profile, repeat_profile
from tests.checks import Checks
from tests.reference import is_profile_by_words, profile_of, random_jobs, random_profile, reversed_profile
from tests.values import NO_NUMBERS
from tests.wrong_valleys import HUGE_NUMBER, NO_PROFILES, PROFILES, stairs

NOTHING = (0, 0, ((0, 0),), ((0, 0),))
MOST = 10 ** 30
BOTH = ((repeat_profile, 'repeat', seq_profiles), (copies_profile, 'copies', par_profiles))


def falling(many, hill=0):
    """A profile with many + 1 start valleys; its peak is higher than all of them by the hill."""
    return (-many, many + hill, stairs(many + 1), ((-many, -many),))


class ManyTest(Checks):
    def test_examples(self):
        down = seq_profiles((step_profile(2), step_profile(-3)))
        self.assert_same(repeat_profile(10 ** 6, down), (-1000000, 2, ((0, 0), (2, -1000000)), ((-1000000, -1000000),)))
        rise = seq_profiles((step_profile(6), step_profile(-5), step_profile(4)))
        self.assert_same(copies_profile(2, rise), (10, 10, ((0, 0),), ((10, 0),)))

    def test_no_rounds_and_no_copies(self):
        for profile in PROFILES:
            for function, _, _ in BOTH:
                self.assert_same(function(0, profile), NOTHING)
                self.assert_same(function(1, profile), profile)

    def test_small_jobs_state_by_state(self):
        for job in random_jobs(91, 250, 4) + [5, -5, 0, ('seq', ()), ('seq', (-3, 5, -4)), ('seq', (6, -5, 4))]:
            for count in (0, 1, 2, 3):
                for function, kind, _ in BOTH:
                    self.assert_same(function(count, profile_of(job)), profile_of((kind, count, job)))

    def test_single_rounds_and_copies_one_by_one(self):
        source = random.Random(92)
        for _ in range(400):
            profile = random_profile(source, 6)
            count = source.randint(0, 7)
            for function, _, together in BOTH:
                result = function(count, profile)
                self.assert_same(result, together((profile,) * count))
                self.assertTrue(is_profile_by_words(result))

    def test_great_counts_add_up(self):
        source = random.Random(93)
        for _ in range(200):
            profile = random_profile(source, 6)
            total = source.choice([MOST, MOST, source.randint(2, MOST)])
            first = source.choice([0, 1, 2, 3, total // 2, source.randint(0, total), total - 1, total])
            for function, _, together in BOTH:
                halves = (function(first, profile), function(total - first, profile))
                self.assert_same(together(halves), function(total, profile))

    def test_great_counts_within_one_another(self):
        source = random.Random(94)
        for _ in range(200):
            profile = random_profile(source, 6)
            outer = source.randint(1, 10 ** 15)
            inner = source.randint(1, 10 ** 15)
            for function, _, _ in BOTH:
                self.assert_same(function(outer, function(inner, profile)), function(outer * inner, profile))

    def test_mirrors(self):
        source = random.Random(95)
        for _ in range(200):
            profile = random_profile(source, 6)
            count = source.choice([0, 1, 2, 3, 10 ** 12, MOST])
            for function, _, _ in BOTH:
                self.assert_same(function(count, reversed_profile(profile)), reversed_profile(function(count, profile)))

    def test_integers_of_any_size(self):
        high = (HUGE_NUMBER, HUGE_NUMBER, ((0, 0),), ((HUGE_NUMBER, 0),))
        for function, _, _ in BOTH:
            total = MOST * HUGE_NUMBER
            self.assert_same(function(MOST, high), (total, total, ((0, 0),), ((total, 0),)))
            self.assert_same(function(MOST, reversed_profile(high)), (-total, 0, ((0, -total),), ((-total, -total),)))


class EdgesTest(Checks):
    def test_rounds_with_400_and_401_valleys(self):
        for profile, many in ((falling(398, 1), 400), (falling(399), 400), (falling(399, 1), 401)):
            low = profile[2][-1][1]
            if many == 401:
                for count in (2, 3, MOST):
                    self.assert_too_many(400, repeat_profile, count, profile)
                    self.assert_too_many(400, repeat_profile, count, reversed_profile(profile))
            else:
                for count in (2, 3, MOST):
                    result = repeat_profile(count, profile)
                    start = tuple(pair for pair in profile[2] if pair[0] < profile[1]) + ((profile[1], count * low),)
                    self.assertEqual(len(result[2]), 400)
                    self.assert_same(result, (count * low, profile[1], start, ((count * low, count * low),)))
                    self.assert_same(repeat_profile(count, reversed_profile(profile)), reversed_profile(result))
            for count in (0, 1):
                self.assert_same(repeat_profile(count, profile), profile if count else NOTHING)

    def test_copies_of_400_valleys(self):
        for hill in (0, 1):
            self.assert_same(copies_profile(1, falling(399, hill)), falling(399, hill))
            for profile in (falling(399, hill), reversed_profile(falling(399, hill))):
                self.assert_same(copies_profile(3, profile), par_profiles((profile,) * 3))
        spread = tuple((index * index, -index) for index in range(400))
        profile = (-399, 399 ** 2, spread, ((-399, -399),))
        for count in (1, 2, 100):
            result = copies_profile(count, profile)
            self.assert_same(result, par_profiles((profile,) * count))
        self.assertGreater(len(copies_profile(100, profile)[2]), 300)

    def test_counts(self):
        profile = falling(3, 2)
        for function, _, _ in BOTH:
            self.assertEqual(function(MOST, profile)[0], -3 * MOST)
            for count in NO_NUMBERS + (-1, MOST + 1, -MOST, 10 ** 61 - 1):
                self.assert_invalid_number(count, function, count, profile)

    def test_profiles(self):
        for index, value in enumerate(NO_PROFILES):
            with self.subTest(index=index):
                for function, _, _ in BOTH:
                    for count in (0, 1, MOST):
                        self.assert_raises_only(InvalidProfile, function, count, value)

    def test_several_wrong_arguments(self):
        for function, _, _ in BOTH:
            for count in (True, None, -1, MOST + 1):
                self.assert_invalid_number(count, function, count, None)
                self.assert_invalid_number(count, function, count, falling(399, 1))
            self.assert_raises_only(InvalidProfile, function, 2, falling(400, 1))
