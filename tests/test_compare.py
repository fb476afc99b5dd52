"""Promises 10.3 and 10.4: which jobs can replace which other ones, and separations."""

import itertools
import random

from roomprofile.errors import InvalidJob, InvalidProfile
from roomprofile.exchange.compare import are_exchangeable, can_replace, is_at_most, is_separation, separation
from roomprofile.exchange.contexts import capacity_in, is_context
from roomprofile.jobs.jobs import mirror, step_count
from roomprofile.profiles.profiles import is_profile, normal_form, profile
from tests.changes import changes_of
from tests.checks import Checks
from tests.great import GREAT_JOBS, MOST
from tests.reference import profile_of, random_job, random_jobs, random_profile, reversed_profile, state_count, uneven_jobs
from tests.reference_contexts import (
    HOLE, is_at_most_by_words, is_context_by_words, job_with, plugged_by_words, random_context, telling_contexts,
)
from tests.values import A, B, C, D, EMPTY_HUGE, HUGE, INTEGERS, NO_JOBS, P, STRANGE, TUPLES, WIDE
from tests.wrong_valleys import NO_PROFILES, PROFILES

EMPTY = ('seq', ())
BESIDE = ('par', (HOLE, ('seq', (13, -3))))
DOWN = ('seq', (-8, 3))
DOWN_UP = ('seq', (-8, 6, -3))
WORDS = ('seq', 'par', 'hole')


def steps_of(profile):
    return ('seq', normal_form(profile))


def is_separation_by_words(first, second, value):
    """10.4, for jobs of which the first cannot replace the second, and any value; peaks by the profiles."""
    if value.__class__ is not tuple or len(value) != 2 or value[1].__class__ is not int or not is_context_by_words(value[0]):
        return False
    return capacity_in(value[0], second) <= value[1] < capacity_in(value[0], first)


class CompareChecks(Checks):
    def assert_separated(self, first, second, there, by_states=False):
        """There is a separation, which is one by the least peaks, or none."""
        value = separation(first, second)
        self.assertIs(can_replace(first, second), not there)
        if not there:
            self.assertIsNone(value)
            self.assertIs(is_separation(first, second, None), True)
            return
        context, capacity = value
        self.assertIs(is_context(context), True)
        self.assertIs(capacity.__class__, int)
        self.assertLessEqual(capacity_in(context, second), capacity)
        self.assertGreater(capacity_in(context, first), capacity)
        self.assertIs(is_separation(first, second, value), True)
        self.assertIs(is_separation(first, second, None), False)
        if by_states:
            self.assertLessEqual(profile_of(plugged_by_words(context, second))[1], capacity)
            self.assertGreater(profile_of(plugged_by_words(context, first))[1], capacity)


class AtMostTest(CompareChecks):
    def test_examples(self):
        self.assert_same([is_at_most(profile(B), profile(A)), is_at_most(profile(A), profile(B))], [True, False])
        self.assert_same([can_replace(B, A), can_replace(A, B)], [True, False])
        self.assert_same([are_exchangeable(A, ('seq', (2, 3, -3))), are_exchangeable(DOWN, DOWN_UP)], [True, False])
        self.assertIsNone(separation(B, A))
        self.assert_same(is_separation(DOWN_UP, DOWN, (BESIDE, 5)), True)
        self.assert_same([is_separation(DOWN_UP, DOWN, (BESIDE, 4)), is_separation(DOWN_UP, DOWN, (BESIDE, 8))], [False, False])

    def test_drawn_profiles_by_the_four_conditions(self):
        source = random.Random(241)
        found = {True: 0, False: 0}
        for _ in range(6000):
            first, second = [random_profile(source, 2) for _ in range(2)]
            if source.random() < 0.5:
                first, second = reversed_profile(first), reversed_profile(second)
            expected = is_at_most_by_words(first, second)
            self.assertIs(is_at_most(first, second), expected)
            self.assertIs(is_at_most(first, first), True)
            found[expected] += 1
        self.assertGreater(min(found.values()), 100)

    def test_profiles_that_differ_at_one_number(self):
        source = random.Random(242)
        checked = 0
        for _ in range(300):
            known = random_profile(source)
            known = source.choice([known, reversed_profile(known)])
            for other in one_number_changed(known):
                if is_profile(other):
                    checked += 1
                    for pair in ((known, other), (other, known)):
                        expected = is_at_most_by_words(*pair)
                        self.assertIs(is_at_most(*pair), expected)
                        jobs = [steps_of(one) for one in pair]
                        self.assert_separated(*jobs, not expected)
                        self.assertIs(are_exchangeable(*jobs), False)
        self.assertGreater(checked, 500)

    def test_the_edge_at_the_net_of_the_second(self):
        # Below the net of the second the end valleys need not be compared; at it they are.
        low = (-3, 0, ((0, -3),), ((-3, -3),))
        for first, second, expected in (
            (low, (-2, 0, ((0, -3),), ((-2, -3),)), True), ((-2, 0, ((0, -3),), ((-2, -3),)), low, False),
            ((-3, 0, ((0, -5),), ((-3, -3), (-2, -5))), (-2, 0, ((0, -5),), ((-2, -5),)), True),
            ((-3, 0, ((0, -5),), ((-3, -3), (-1, -5))), (-2, 0, ((0, -5),), ((-2, -5),)), False),
            ((-3, 0, ((0, -5),), ((-3, -3), (-1, -5))), (-1, 0, ((0, -5),), ((-1, -5),)), True),
            ((-3, 0, ((0, -5),), ((-3, -3), (-1, -5))), (-2, 0, ((0, -5),), ((-2, -3), (-1, -5))), True),
            ((-3, 0, ((0, -5),), ((-3, -3), (-1, -5))), (-2, 0, ((0, -5),), ((-2, -4), (-1, -5))), False),
        ):
            self.assertTrue(is_profile(first) and is_profile(second))
            self.assertIs(is_at_most_by_words(first, second), expected)
            self.assertIs(is_at_most(first, second), expected)
            self.assert_separated(steps_of(first), steps_of(second), not expected)

    def test_wrong_inputs(self):
        for value in NO_PROFILES:
            self.assert_raises_only(InvalidProfile, is_at_most, value, PROFILES[0])
            self.assert_raises_only(InvalidProfile, is_at_most, PROFILES[0], value)
        for first in PROFILES:
            for second in PROFILES:
                self.assertIs(is_at_most(first, second), is_at_most_by_words(first, second))


def one_number_changed(known):
    """Profiles, or values near them, that differ from this one at one pair, at the net or at the peak."""
    net, peak, start, end = known
    for more in (-1, 1, 3):
        yield (net, peak + more, start, end)
        yield (net + more, peak, start, ((net + more, end[0][1]),) + end[1:])
        for at, valleys in ((2, start), (3, end)):
            for index, (capacity, low) in enumerate(valleys):
                for pair in ((capacity + more, low), (capacity, low + more)):
                    yield known[:at] + (valleys[:index] + (pair,) + valleys[index + 1:],) + known[at + 1:]
                if index > 0:
                    yield known[:at] + (valleys[:index] + valleys[index + 1:],) + known[at + 1:]


class ReplaceTest(CompareChecks):
    def test_small_jobs_state_by_state(self):
        found = {True: 0, False: 0}
        jobs = random_jobs(243, 40, 5, largest=3) + uneven_jobs(244, 12, 60)
        known = [profile_of(job) for job in jobs]
        for (first, one), (second, two) in itertools.product(zip(jobs, known), repeat=2):
            expected = is_at_most_by_words(one, two)
            by_states = state_count(first) < 30 and state_count(second) < 30
            self.assert_separated(first, second, not expected, by_states)
            self.assertIs(are_exchangeable(first, second), one == two)
            found[expected] += 1
        self.assertGreater(min(found.values()), 200)

    def test_no_drawn_context_tells_otherwise(self):
        source = random.Random(245)
        found = {True: 0, False: 0}
        for _ in range(250):
            profiles = [random_profile(source, 3) for _ in range(2)]
            jobs = [job_with(one, source) for one in profiles]
            known = [profile(job) for job in jobs]
            can = can_replace(*jobs)
            contexts = telling_contexts(source, known) + [random_context(source) for _ in range(10)]
            worse = any(capacity_in(context, jobs[0]) > capacity_in(context, jobs[1]) for context in contexts)
            self.assertFalse(can and worse)
            found[worse] += 1
            if not can and not worse:
                found['missed'] = found.get('missed', 0) + 1
        self.assertLess(found.get('missed', 0), 40)

    def test_small_contexts_state_by_state(self):
        source = random.Random(246)
        checked = 0
        for _ in range(300):
            first, second = [random_job(source, 4, largest=3) for _ in range(2)]
            if can_replace(first, second):
                for context in [HOLE] + [random_context(source, 2) for _ in range(6)]:
                    wholes = [plugged_by_words(context, job) for job in (first, second)]
                    if max(map(state_count, wholes)) < 500:
                        checked += 1
                        self.assertLessEqual(profile_of(wholes[0])[1], profile_of(wholes[1])[1])
        self.assertGreater(checked, 100)

    def test_each_condition_broken_alone(self):
        base = (-2, 6, ((0, 0), (4, -5)), ((-2, -2), (3, -5)))
        for first, second in (
            ((-1, 6, ((0, 0), (4, -5)), ((-1, -2), (3, -5))), base), ((-2, 7, ((0, 0), (4, -5)), ((-2, -2), (3, -5))), base),
            ((-2, 6, ((0, 0), (5, -5)), ((-2, -2), (3, -5))), base), (base, (-2, 6, ((0, -1), (4, -5)), ((-2, -2), (3, -5)))),
            (base, (-2, 6, ((0, 0), (2, -1), (4, -5)), ((-2, -2), (3, -5)))),
            ((-2, 6, ((0, 0), (4, -5)), ((-2, -2), (4, -5))), base), (base, (-2, 6, ((0, 0), (4, -5)), ((-2, -3), (3, -5)))),
            (base, (-2, 6, ((0, 0), (4, -5)), ((-2, -2), (0, -3), (3, -5)))),
        ):
            self.assertTrue(is_profile(first) and is_profile(second))
            self.assertIs(is_at_most_by_words(first, second), False)
            self.assert_separated(steps_of(first), steps_of(second), True, by_states=True)
            self.assert_separated(steps_of(second), steps_of(first), False)

    def test_each_condition_broken_alone_in_drawn_profiles(self):
        source = random.Random(247)
        seen = {}
        for _ in range(4000):
            second = random_profile(source, 3)
            second = source.choice([second, reversed_profile(second)])
            firsts = [one for one in one_number_changed(second) if is_profile(one)]
            first = source.choice(firsts)
            broken = (first[0] > second[0], first[1] > second[1],
                      not is_at_most_by_words((0, 0, first[2], second[2]), (0, 0, second[2], second[2])))
            seen[broken] = seen.get(broken, 0) + 1
            self.assert_separated(steps_of(first), steps_of(second), not is_at_most_by_words(first, second))
        for alone in ((True, False, False), (False, True, False), (False, False, True), (False, False, False)):
            self.assertGreater(seen[alone], 50)

    def test_great_jobs(self):
        for first, second in zip(GREAT_JOBS, GREAT_JOBS[1:] + GREAT_JOBS[:1]):
            for pair in ((first, second), (mirror(first), second), (first, mirror(second)), (first, first)):
                expected = is_at_most_by_words(profile(pair[0]), profile(pair[1]))
                self.assert_separated(*pair, not expected)
                self.assert_separated(pair[1], pair[0], not is_at_most_by_words(profile(pair[1]), profile(pair[0])))
                self.assertIs(are_exchangeable(*pair), profile(pair[0]) == profile(pair[1]))

    def test_great_jobs_one_step_apart(self):
        for job in GREAT_JOBS:
            if step_count(job) > 10 ** 30 - 2:
                continue
            for other in (('seq', (job, 1, -1)), ('seq', (1, -1, job)), ('seq', (job, 1)), ('seq', (-1, job)), ('par', (job, 3))):
                if not fits(other):
                    continue
                for pair in ((job, other), (other, job)):
                    self.assert_separated(*pair, not is_at_most_by_words(profile(pair[0]), profile(pair[1])))

    def test_greatest_numbers(self):
        up, down = ('copies', MOST, MOST), ('copies', MOST, -MOST)
        half = MOST // 2
        both = ('seq', (('copies', half, MOST), ('copies', half, -MOST)))
        back = ('seq', (('copies', half, -MOST), ('copies', half, MOST)))
        jobs = (up, down, both, back, 0, EMPTY_HUGE, HUGE, D, ('par', (('copies', half, MOST), ('copies', half, -MOST))))
        for first, second in itertools.product(jobs, repeat=2):
            expected = is_at_most_by_words(profile(first), profile(second))
            self.assert_separated(first, second, not expected)

    def test_empty_jobs(self):
        for first, second in itertools.product((EMPTY, EMPTY_HUGE, 0, ('par', (('repeat', 0, 5), ('copies', 0, HUGE)))), repeat=2):
            self.assertIs(are_exchangeable(first, second), True)
            self.assert_separated(first, second, False)
        self.assert_separated(1, EMPTY, True)
        self.assert_separated(EMPTY, 1, False)
        self.assert_separated(EMPTY, -1, True)
        self.assert_separated(-1, EMPTY, False)

    def test_each_job_has_one_order_that_is_as_good(self):
        for job in random_jobs(248, 60, 8) + uneven_jobs(249, 60):
            self.assertIs(are_exchangeable(job, ('seq', normal_form(profile(job)))), True)


def fits(job):
    try:
        step_count(job)
    except InvalidJob:
        return False
    return True


class SeparationTest(CompareChecks):
    def test_one_part_changed(self):
        source = random.Random(250)
        found = {True: 0, False: 0}
        pairs = [(DOWN_UP, DOWN), (A, B), (C, B), (5, 3), (EMPTY, -2), (P, A)]
        pairs += [[random_job(source, 4) for _ in range(2)] for _ in range(30)]
        for first, second in pairs:
            value = separation(first, second)
            for other in list(changes_of(value, words=WORDS)) + list(changes_of((BESIDE, 5), words=WORDS)):
                expected = other is None if value is None else is_separation_by_words(first, second, other)
                self.assertIs(is_separation(first, second, other), expected, (first, second, other))
                found[expected] += 1
        self.assertGreater(min(found.values()), 100)

    def test_any_value(self):
        values = STRANGE + INTEGERS + TUPLES + (
            (HOLE,), (HOLE, True), (HOLE, '5'), (HOLE, None), [HOLE, 4], (4, HOLE), (HOLE, 4, 4), (A, 4), (('repeat', 1, HOLE), 4),
            (('seq', (HOLE, HOLE)), 4), (WIDE, 4), WIDE, (['hole'], 4), ((), 4), (None, 4),
        )
        for first, second in ((A, 2), (C, B), (P, D)):
            for index, value in enumerate(values):
                with self.subTest(index=index):
                    self.assertIs(is_separation(first, second, value), False)
        for first, second in ((2, A), (B, C), (A, A)):
            for index, value in enumerate(values):
                with self.subTest(index=index):
                    self.assertIs(is_separation(first, second, value), value is None)
        self.assert_yes([is_separation(5, 3, (HOLE, capacity)) for capacity in (3, 4)])
        self.assert_no([is_separation(5, 3, (HOLE, capacity)) for capacity in (2, 5, -3, 10 ** 70 - 1, True)])
        self.assert_yes([is_separation(1, 0, (HOLE, 0))])
        self.assert_no([is_separation(1, 0, (HOLE, False)), is_separation(0, 1, (HOLE, 0))])

    def test_greatest_steps_of_a_context(self):
        most = 10 ** 61 - 1
        self.assertIs(is_separation(5, 3, (('seq', (HOLE, most)), most + 3)), True)
        self.assertIs(is_separation(5, 3, (('seq', (HOLE, most + 1)), most + 4)), False)

    def test_wrong_inputs(self):
        for function, more in ((can_replace, ()), (are_exchangeable, ()), (separation, ()), (is_separation, (None,))):
            for value in NO_JOBS:
                self.assert_raises_only(InvalidJob, function, value, A, *more)
                self.assert_raises_only(InvalidJob, function, A, value, *more)
            self.assertRaises(InvalidJob, function, WIDE, WIDE, *more)
