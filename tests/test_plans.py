"""Promises 6.1 to 6.3: plans, chains, and the plan that does everything one after another."""

import random

from roomprofile.errors import InvalidJob, InvalidPlan
from roomprofile.jobs.jobs import net, step_count
from roomprofile.plans.plans import MAX_SEGMENTS, chain, chain_profile, is_plan, plan_peak, sequential_plan
from roomprofile.profiles.profiles import profile
from tests.changes import changes_of
from tests.checks import Checks
from tests.great import GREAT_JOBS, MOST
from tests.reference import random_jobs, steps_of, uneven_jobs, value_at
from tests.reference_plans import chain_by_words, profile_by_words, random_plan, stretches_by_words, whole
from tests.values import A, B, C, D, EMPTY_HUGE, HUGE, INTEGERS, NO_JOBS, P, STRANGE, TUPLES, WIDE, deep_tuple
from tests.wrong_valleys import HUGE_NUMBER, stairs

STEP = ('step',)
TWO = ('seq', (STEP, STEP))
THREE = ('seq', (STEP, STEP, STEP))
NO_PLANS = STRANGE + INTEGERS + TUPLES + (
    'step', ['step'], ('Step',), ('step', ()), ('step', 'step'), (STEP,), ('seq', ()), ('seq', [STEP, STEP]),
    ('join', (1,), 5), (('step',), ('step',)), deep_tuple(200),
)


def tripled(times):
    """A job and a plan of it with 2 ** (times + 1) - 1 segments."""
    job = 5
    plan = STEP
    for _ in range(times):
        job = ('repeat', 3, job)
        plan = ('repeat', plan)
    return job, plan


def segments_of(many):
    """A job of few nodes and a plan of it with so many segments, of 0 to 1999."""
    jobs = []
    plans = []
    for times in range(9, -1, -1):
        job, plan = tripled(times)
        while many >= 2 ** (times + 1) - 1:
            many -= 2 ** (times + 1) - 1
            jobs.append(job)
            plans.append(plan)
    return ('seq', tuple(jobs)), ('seq', tuple(plans))


class ExamplesTest(Checks):
    def test_examples(self):
        self.assert_same([is_plan(A, TWO), is_plan(A, ('seq', (STEP,)))], [True, False])
        self.assert_same(chain(D, ('repeat', TWO)),
                         ((2, 2, 1), (-3, 0, 1), (-999998, 2, 1999996), (2, 2, 1), (-3, 0, 1)))
        self.assert_same(chain(P, ('copies', ('join', (2, 1), THREE))), ((2, 7, 4), (8, 8, 2)))
        self.assert_same(plan_peak(C, ('par', (TWO, THREE), (1, 1, 0, 0, 1))), 4)
        self.assert_same(plan_peak(C, ('par', (TWO, THREE), (0, 0, 1, 1, 1))), 5)
        self.assert_same(chain_profile(((3, 3, 1), (-4, 0, 1), (5, 5, 1), (-3, 0, 1), (2, 2, 1))),
                         (3, 4, ((0, 0), (3, -1)), ((3, 1), (4, -1))))
        self.assert_same(sequential_plan(P), ('copies', ('join', (3,), THREE)))
        self.assert_same(plan_peak(P, sequential_plan(P)), 11)
        self.assertEqual(MAX_SEGMENTS, 2000)


class ChainTest(Checks):
    def test_small_jobs_part_by_part(self):
        source = random.Random(121)
        for job in random_jobs(122, 400, 9, levels=6) + uneven_jobs(136, 100):
            for _ in range(3):
                plan = random_plan(source, job)
                self.assertIs(is_plan(job, plan), True)
                expected = tuple(chain_by_words(job, plan))
                self.assert_same(chain(job, plan), expected)
                self.assert_same(plan_peak(job, plan), whole(expected)[1])
                self.assert_same(chain_profile(expected), profile_by_words(expected))

    def test_segments_are_those_of_the_stretches(self):
        source = random.Random(123)
        for job in random_jobs(124, 300, 9, levels=6):
            plan = random_plan(source, job)
            steps = dict(steps_of(job))
            for segment, stretch in zip(chain(job, plan), stretches_by_words(job, plan), strict=True):
                usages = [0]
                for address in stretch:
                    usages.append(usages[-1] + steps[address])
                self.assert_same(segment, (usages[-1], max(usages), len(stretch)))

    def test_great_jobs(self):
        source = random.Random(125)
        checked = 0
        for job in GREAT_JOBS:
            plan = random_plan(source, job, joins=0.9) if job[0] != 'par' or len(job[1]) < 100 else sequential_plan(job)
            expected = chain_by_words(job, plan)
            self.assertIs(is_plan(job, plan), expected is not None)
            if expected is not None:
                checked += 1
                self.assert_same(chain(job, plan), tuple(expected))
                total = whole(expected)
                self.assertEqual((total[0], total[2]), (net(job), step_count(job)))
                self.assertEqual(plan_peak(job, plan), total[1])
        self.assertGreater(checked, len(GREAT_JOBS) - 4)

    def test_each_number_of_rounds(self):
        inner = ((2, 2, 1), (-3, 0, 1))
        middle = {0: (), 1: inner, 2: inner * 2, 3: inner + ((-1, 2, 2),) + inner, 4: inner + ((-2, 2, 4),) + inner}
        for n, expected in middle.items():
            self.assert_same(chain(('repeat', n, ('seq', (2, -3))), ('repeat', TWO)), expected)
        rise = ((3, 3, 1), (-1, 0, 1))
        self.assert_same(chain(('repeat', 5, ('seq', (3, -1))), ('repeat', TWO)), rise + ((6, 7, 6),) + rise)
        great = chain(('repeat', 5 * 10 ** 29, ('seq', (3, -1))), ('repeat', TWO))
        n = 5 * 10 ** 29
        self.assert_same(great, rise + ((2 * (n - 2), 3 + 2 * (n - 3), 2 * (n - 2)),) + rise)
        self.assert_same(chain(('repeat', MOST, 0), ('repeat', STEP)), ((0, 0, 1), (0, 0, MOST - 2), (0, 0, 1)))

    def test_each_number_of_copies(self):
        for n in (1, 2, 3, 10 ** 29):
            self.assert_same(chain(('copies', n, ('seq', (2, -3))), ('copies', TWO)), ((2 * n, 2 * n, n), (-3 * n, 0, n)))
        self.assert_same(chain(('copies', 0, ('seq', (2, -3))), ('copies', TWO)), ())

    def test_empty_chains(self):
        for job, plan in (
            (('seq', ()), ('seq', ())), (('par', ()), ('par', (), ())), (('repeat', 0, A), ('repeat', TWO)),
            (('copies', 0, A), ('copies', ('join', (2,), TWO))), (('repeat', MOST, ('seq', ())), ('repeat', ('seq', ()))),
            (('copies', MOST, ('par', ())), ('copies', ('join', (), ('par', (), ())))),
            (EMPTY_HUGE, ('repeat', ('copies', ('par', (('seq', ()), ('repeat', STEP)), ())))),
            (('repeat', 0, HUGE), ('repeat', ('copies', ('repeat', ('par', (STEP,), (0,)))))),
        ):
            for whole_plan in (plan, ('join', (), plan)):
                self.assert_same(chain(job, whole_plan), ())
                self.assert_same(plan_peak(job, whole_plan), 0)
            for sizes in ((0,), (1,), [], None, 0):
                self.assertIs(is_plan(job, ('join', sizes, plan)), False)
        self.assertIs(is_plan(('repeat', 0, A), ('repeat', STEP)), False)
        self.assertIs(is_plan(('repeat', 0, A), ('repeat', ())), False)


class IsPlanTest(Checks):
    def test_joins(self):
        for sizes, expected in (
            ((5,), True), ((1, 4), True), ((1, 1, 1, 1, 1), True), ((2, 2), False), ((2, 4), False), ((5, 0), False),
            ((6, -1), False), ((0, 5), False), ((4, True), False), ((True,) * 5, False), ([5], False), (5, False),
            ((), False), ((10 ** 70 - 1,), False), ((5, None), False), (('5',), False), ((1,) * 10 ** 6, False),
        ):
            self.assertIs(is_plan(D, ('join', sizes, ('repeat', TWO))), expected)
        self.assertIs(is_plan(D, ('join', (1,), ('join', (5,), ('repeat', TWO)))), False)
        self.assertIs(is_plan(D, ('join', (3,), ('repeat', ('join', (1,), TWO)))), False)
        self.assertIs(is_plan(D, ('join', (3,), ('repeat', ('join', (2,), TWO)))), True)
        self.assertIs(is_plan(5, ('join', (1,), STEP)), True)
        self.assertIs(is_plan(5, ('join', (1,), ('join', (1,), STEP))), False)
        self.assertIs(is_plan(5, ('join', (1,), ('join', (1,), ('join', (1,), STEP)))), False)

    def test_orders(self):
        for order, expected in (
            ((1, 1, 0, 0, 1), True), ((0, 0, 1, 1, 1), True), ((1, 1, 1, 0, 0), True), ((0, 1, 1, 1), False),
            ((0, 0, 0, 1, 1), False), ((0, 0, 1, 1, 1, 1), False), ((0, 0, 1, 1, 2), False), ((0, 0, 1, 1, -1), False),
            ((False, 0, 1, 1, 1), False), ((0, 0, 1, 1, True), False), ([0, 0, 1, 1, 1], False), ((), False),
            (None, False), ((0, 0, 1, 1, '1'), False), ((0, 0, 1, 1, 10 ** 70 - 1), False), ((0,) * 10 ** 6, False),
            ((0, 0, 1, 1, (1,)), False), ('00111', False), ({}, False),
        ):
            self.assertIs(is_plan(C, ('par', (TWO, THREE), order)), expected)
        self.assertIs(is_plan(C, ('par', (('join', (2,), TWO), THREE), (1, 1, 0, 1))), True)
        self.assertIs(is_plan(C, ('par', (('join', (2,), TWO), THREE), (1, 1, 0, 0, 1))), False)
        self.assertIs(is_plan(C, ('par', (TWO, THREE))), False)
        self.assertIs(is_plan(('seq', (A, B)), ('seq', (TWO, THREE), (0, 0, 1, 1, 1))), False)

    def test_how_many_segments(self):
        for many in (1999, 2000, 2001):
            job, plan = segments_of(many)
            self.assertIs(is_plan(job, plan), many <= 2000)
            self.assertIs(is_plan(('seq', (job,)), ('seq', (('join', (many,), plan),))), many <= 2000)
            self.assertIs(is_plan(('repeat', 0, job), ('repeat', plan)), many <= 2000)
            self.assertIs(is_plan(('copies', 7, job), ('copies', plan)), many <= 2000)
            self.assertIs(is_plan(('par', (job,)), ('par', (plan,), (0,) * many)), many <= 2000)
            if many <= 2000:
                self.assertEqual(len(chain(job, plan)), many)
        for many, n, expected in ((1000, 2, True), (1001, 2, False), (999, 3, True), (1000, 3, False), (2000, 1, True)):
            job, plan = segments_of(many)
            self.assertIs(is_plan(('repeat', n, job), ('repeat', plan)), expected)
            joined = ('repeat', ('join', (many,), plan))
            self.assertIs(is_plan(('repeat', n, job), joined), True)
            self.assertIs(is_plan(('repeat', n, job), ('join', (2 * many + (n > 2),), ('repeat', plan))), expected and n > 1)
        half, half_plan = segments_of(1000)
        for first in (half, 5):
            parts = (half, half, first)
            plans = (half_plan, half_plan, STEP if first == 5 else half_plan)
            many = 2001 if first == 5 else 3000
            self.assertIs(is_plan(('seq', parts), ('seq', plans)), False)
            self.assertIs(is_plan(('par', parts), ('par', plans, (0,) * 1000 + (1,) * 1000 + (2,) * (many - 2000))), False)
        self.assertIs(is_plan(('seq', (half, half)), ('seq', (half_plan, half_plan))), True)
        deep, deep_plan = tripled(12)
        self.assertIs(is_plan(deep, deep_plan), False)

    def test_one_part_changed(self):
        source = random.Random(126)
        found = [0, 0]
        for job in random_jobs(127, 60, 5, levels=5) + [A, C, P]:
            plan = random_plan(source, job)
            for other in changes_of(plan, words=('step', 'seq', 'par', 'repeat', 'copies', 'join')):
                expected = chain_by_words(job, other) is not None
                self.assertIs(is_plan(job, other), expected, (job, other))
                if not expected:
                    self.assertRaises(InvalidPlan, chain, job, other)
                found[expected] += 1
        self.assertGreater(min(found), 100)

    def test_plans_of_other_jobs(self):
        source = random.Random(128)
        jobs = random_jobs(129, 60, 4)
        for job in jobs:
            plan = random_plan(source, job)
            for other in jobs:
                self.assertIs(is_plan(other, plan), chain_by_words(other, plan) is not None)

    def test_any_value(self):
        for job in (5, A, C, D, P, ('seq', ()), ('par', ())):
            for index, value in enumerate(NO_PLANS):
                with self.subTest(job=job, index=index):
                    if job == ('seq', ()) and value == ('seq', ()):
                        continue
                    self.assertIs(is_plan(job, value), False)
                    self.assert_raises_only(InvalidPlan, chain, job, value)
                    self.assert_raises_only(InvalidPlan, plan_peak, job, value)
            self.assertIs(is_plan(job, WIDE), False)

    def test_wrong_jobs(self):
        for value in NO_JOBS:
            for function in (is_plan, chain, plan_peak):
                self.assert_raises_only(InvalidJob, function, value, None)
                self.assert_raises_only(InvalidJob, function, value, STEP)
            self.assert_raises_only(InvalidJob, sequential_plan, value)


class ChainProfileTest(Checks):
    def test_chains(self):
        source = random.Random(131)
        for _ in range(500):
            segments = []
            for _ in range(source.randint(0, 8)):
                change = source.randint(-6, 6)
                segments.append((change, max(0, change) + source.choice([0, 0, 1, 5]), source.randint(1, 10 ** 9)))
            self.assert_same(chain_profile(tuple(segments)), profile_by_words(segments))

    def test_only_boundaries_count(self):
        self.assert_same(chain_profile(((-1, 3, 5),)), (-1, 3, ((0, 0), (3, -1)), ((-1, -1),)))
        self.assert_same(chain_profile(((0, 0, 1),)), (0, 0, ((0, 0),), ((0, 0),)))
        self.assert_same(chain_profile(((-1, 0, 1), (0, 4, 2), (1, 1, 1))), (0, 3, ((0, -1),), ((0, -1),)))
        self.assert_same(chain_profile(()), (0, 0, ((0, 0),), ((0, 0),)))

    def test_peaks_and_valleys_are_nowhere_below_those_of_the_job(self):
        source = random.Random(132)
        for job in random_jobs(133, 100, 8) + uneven_jobs(135, 100):
            total, peak, start, end = profile(job)
            for _ in range(4):
                found = chain_profile(chain(job, random_plan(source, job)))
                self.assertEqual(found[0], total)
                self.assertGreaterEqual(found[1], peak)
                for ours, theirs in ((start, found[2]), (end, found[3])):
                    for capacity in range(ours[0][0], max(ours[-1][0], theirs[-1][0]) + 1):
                        self.assertLessEqual(value_at(ours, capacity), value_at(theirs, capacity))

    def test_400_and_401_valleys(self):
        for many in (399, 400):
            down = tuple((-1, index + index, 1) for index in range(1, many + 1))
            result = (-many, many + 1, stairs(many + 1, first=1), ((-many, -many),))
            up = tuple((1, 1 + peak, steps) for _, peak, steps in down[::-1])
            if many == 399:
                found = chain_profile(down)
                self.assertEqual((found[0], len(found[2]), found[3]), (-many, 400, result[3]))
                self.assertEqual(len(chain_profile(up)[3]), 400)
            else:
                self.assert_too_many(400, chain_profile, down)
                self.assert_too_many(400, chain_profile, up)
                self.assert_too_many(400, chain_profile, down + up)

    def test_2000_and_2001_segments(self):
        found = chain_profile(((1, 1, 1), (-1, 0, 1)) * 1000)
        self.assert_same(found, (0, 1, ((0, 0),), ((0, 0),)))
        self.assert_raises_only(InvalidPlan, chain_profile, ((1, 1, 1),) * 2001)
        self.assert_raises_only(InvalidPlan, chain_profile, ((-1, 10 ** 6, 1),) * 2001)

    def test_numbers_of_any_size(self):
        self.assert_same(chain_profile(((-HUGE_NUMBER, HUGE_NUMBER, HUGE_NUMBER),)),
                         (-HUGE_NUMBER, HUGE_NUMBER, ((0, 0), (HUGE_NUMBER, -HUGE_NUMBER)), ((-HUGE_NUMBER, -HUGE_NUMBER),)))

    def test_wrong_chains(self):
        good = (1, 1, 1)
        for value in STRANGE + INTEGERS + TUPLES[1:] + (
            [good], (list(good),), (good, None), (good, ()), ((1, 1),), ((1, 1, 1, 1),), ((1, 0, 1),), ((-1, -1, 1),),
            ((0, 0, 0),), ((0, 0, -1),), ((True, 1, 1),), ((1, True, 1),), ((1, 1, True),), ((1, None, 1),), ((1, '1', 1),),
            ((1, 1, (1,)),), (good, (2, 1, 1)), {good: good}, good, ((False, 1, 1),),
        ):
            self.assert_raises_only(InvalidPlan, chain_profile, value)
        self.assertRaises(InvalidPlan, chain_profile, WIDE)

    def test_one_part_changed(self):
        for other in changes_of(((2, 3, 1), (-3, 0, 2))):
            good = other.__class__ is tuple and all(
                row.__class__ is tuple and [part.__class__ for part in row] == [int] * 3 and row[1] >= max(0, row[0])
                and row[2] >= 1 for row in other)
            if good:
                self.assert_same(chain_profile(other), profile_by_words(other))
            else:
                self.assert_raises_only(InvalidPlan, chain_profile, other)


def sequential_by_words(job):
    """The plan of the words of the section, as (plan, segments)."""
    if isinstance(job, int):
        return STEP, 1
    inner = [sequential_by_words(part) for part in (job[1] if job[0] in ('seq', 'par') else job[2:])]
    plans = tuple(plan if many <= 1 else ('join', (many,), plan) for plan, many in inner)
    busy = [index for index, (_, many) in enumerate(inner) if many > 0]
    if job[0] == 'seq':
        return ('seq', plans), len(busy)
    if job[0] == 'par':
        return ('par', plans, tuple(busy)), len(busy)
    rounds = min(job[1], 3) if job[0] == 'repeat' else min(job[1], 1)
    return (job[0], plans[0]), rounds * len(busy)


class SequentialTest(Checks):
    def test_small_jobs(self):
        for job in random_jobs(134, 400, 9, levels=6):
            plan = sequential_plan(job)
            self.assert_same(plan, sequential_by_words(job)[0])
            self.assertIs(is_plan(job, plan), True)
            self.assertEqual(sum(stretches_by_words(job, plan), []), [address for address, _ in steps_of(job)])

    def test_great_jobs(self):
        for job in GREAT_JOBS:
            plan = sequential_plan(job)
            self.assert_same(plan, sequential_by_words(job)[0])
            self.assertIs(is_plan(job, plan), True)

    def test_forms(self):
        self.assert_same(sequential_plan(5), STEP)
        self.assert_same(sequential_plan(C), ('par', (('join', (2,), TWO), ('join', (3,), THREE)), (0, 1)))
        self.assert_same(sequential_plan(('par', (5, ('seq', ()), ('repeat', 0, A)))),
                         ('par', (STEP, ('seq', ()), ('repeat', ('join', (2,), TWO))), (0,)))
        self.assert_same(sequential_plan(('seq', (('repeat', 3, 5), ('repeat', 2, 5), ('repeat', 1, 5), ('copies', 3, 5)))),
                         ('seq', (('join', (3,), ('repeat', STEP)), ('join', (2,), ('repeat', STEP)), ('repeat', STEP),
                                  ('copies', STEP))))
