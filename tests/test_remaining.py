"""Promise 11.3: the rest of a job after the first steps of a plan."""

import random

from roomprofile.errors import InvalidJob, InvalidPlan
from roomprofile.jobs.addresses import step_value
from roomprofile.jobs.jobs import is_job, net, step_count, tidy
from roomprofile.plans.best import best_plan
from roomprofile.plans.orders import step_at, usage_at
from roomprofile.plans.plans import is_plan, sequential_plan
from roomprofile.progress.choices import choices, do_step, remaining_after
from tests.checks import Checks
from tests.great import GREAT_JOBS, MOST
from tests.reference import random_job, random_jobs, uneven_jobs
from tests.reference_plans import random_plan, stretches_by_words
from tests.reference_progress import form, is_job_by_words, levels_in, nodes_in, rest_by_words, steps_in, tidy_by_words
from tests.values import A, B, C, D, EMPTY_HUGE, HUGE, INTEGERS, NO_JOBS, P, STRANGE, TUPLES, WIDE

EMPTY = ('seq', ())
STEP = ('step',)
TWO = ('seq', (STEP, STEP))
THREE = ('seq', (STEP, STEP, STEP))
CP = ('par', (TWO, THREE), (1, 1, 0, 0, 1))
PP = ('copies', ('join', (2, 1), THREE))
NO_PLANS = STRANGE + INTEGERS + TUPLES + ((STEP,), ('seq', ()), ('seq', [STEP, STEP]), ('join', (1,), 5))


class RemainingChecks(Checks):
    def assert_rest(self, job, plan, count):
        expected = tidy_by_words(rest_by_words(job, plan, count))
        if not is_job_by_words(expected):
            self.assert_too_many(400, remaining_after, job, plan, count)
            return None
        left = remaining_after(job, plan, count)
        self.assert_same(left, expected)
        self.assertEqual(step_count(left), step_count(job) - count)
        return left


class SmallJobsTest(RemainingChecks):
    def test_examples(self):
        self.assert_same(remaining_after(D, ('repeat', TWO), 1001), ('seq', (-3, ('repeat', 999499, ('seq', (2, -3))))))
        self.assert_same(remaining_after(('copies', 9, A), ('copies', TWO), 4),
                         ('par', (('copies', 4, -3), ('copies', 5, ('seq', (5, -3))))))

    def test_by_hand(self):
        self.assert_same([remaining_after(C, CP, count) for count in range(6)], [
            C, ('par', (A, ('seq', (-4, 2)))), ('par', (A, 2)), ('par', (-3, 2)), 2, EMPTY,
        ])
        self.assert_same([remaining_after(P, PP, count) for count in range(7)], [
            P, ('par', (('seq', (-5, 4)), ('seq', (6, -5, 4)))), ('par', (4, ('seq', (6, -5, 4)))),
            ('par', (4, ('seq', (-5, 4)))), ('copies', 2, 4), 4, EMPTY,
        ])
        self.assert_same([remaining_after(('repeat', 3, A), ('repeat', TWO), count) for count in range(7)], [
            ('repeat', 3, A), ('seq', (-3, ('repeat', 2, A))), ('repeat', 2, A), ('seq', (-3, 5, -3)), A, -3, EMPTY,
        ])

    def test_each_count_row_by_row(self):
        source = random.Random(211)
        for job in random_jobs(212, 400, 9, levels=6, largest=2) + uneven_jobs(213, 60):
            for plan in (random_plan(source, job), random_plan(source, job, joins=0.9), best_plan(job), sequential_plan(job)):
                for count in range(steps_in(job) + 1):
                    self.assert_rest(job, plan, count)

    def test_all_and_nothing(self):
        for job in random_jobs(214, 100, 9, levels=6) + [EMPTY_HUGE, EMPTY, 5, ('copies', 0, A), ('par', (EMPTY, EMPTY))]:
            plan = best_plan(job)
            self.assert_same(remaining_after(job, plan, step_count(job)), EMPTY)
            self.assert_same(remaining_after(job, plan, 0), tidy(job))

    def test_the_steps_that_are_left_are_in_the_same_order(self):
        source = random.Random(215)
        for job in random_jobs(216, 200, 8, levels=6, largest=3) + uneven_jobs(217, 30):
            plan = random_plan(source, job)
            run = sum(stretches_by_words(job, plan), [])
            for count in range(len(run) + 1):
                self.assertEqual(form(remaining_after(job, plan, count)), form(job, set(run[:count])))

    def test_choices_one_by_one_in_the_order_of_the_run(self):
        source = random.Random(218)
        for job in random_jobs(219, 120, 8, levels=6, largest=3) + uneven_jobs(220, 30):
            plan = random_plan(source, job)
            run = sum(stretches_by_words(job, plan), [])
            left = job
            for count, address in enumerate(run):
                wanted = form(job, set(run[:count + 1]))
                ways = [choice for choice in choices(left) if form(do_step(left, choice)) == wanted]
                self.assertTrue(ways, (job, plan, count))
                self.assertEqual(step_value(left, ways[0]), step_value(job, address))
                left = do_step(left, ways[0])
                self.assertEqual(form(left), form(remaining_after(job, plan, count + 1)))


class GreatJobsTest(RemainingChecks):
    def test_great_counts(self):
        source = random.Random(221)
        for index in range(250):
            inner = random_job(source, 7, largest=3)
            job = inner
            for _ in range(source.randint(1, 3)):
                kind = source.choice(['repeat', 'copies'])
                most = max(1, 10 ** 30 // max(1, steps_in(job)))
                job = (kind, source.randint(0, min(most, 10 ** source.randint(0, 12))), job)
                if source.random() < 0.4:
                    job = (source.choice(['seq', 'par']), (job, inner, ('copies', 2, inner)))
            if not is_job(job):
                continue
            plan = random_plan(source, job)
            total = steps_in(job)
            for count in [0, 1, 2, total - 1, total] + [source.randint(0, total) for _ in range(8)]:
                if 0 <= count <= total and is_plan(job, plan):
                    left = self.assert_rest(job, plan, count)
                    if left is not None:
                        self.assertEqual(net(left), net(job) - usage_at(job, plan, count))

    def test_great_jobs(self):
        source = random.Random(222)
        for job in GREAT_JOBS:
            total = step_count(job)
            for plan in (best_plan(job), sequential_plan(job)):
                for count in {0, total, min(1, total), max(0, total - 1), total // 2, *(source.randint(0, total) for _ in range(4))}:
                    self.assert_rest(job, plan, count)

    def test_copies_within_one_another(self):
        source = random.Random(223)
        job, plan = ('seq', (3, -5, 2)), ('join', (2, 1), THREE)
        for levels in range(1, 6):
            job, plan = ('copies', 10 ** 4 + levels, ('seq', (job, levels))), ('copies', ('seq', (plan, STEP)))
            total = steps_in(job)
            for count in [1, total - 1] + [source.randint(0, total) for _ in range(20)]:
                left = self.assert_rest(job, plan, count)
                self.assertLess(nodes_in(tidy_by_words(rest_by_words(job, plan, count))), 401 if left else 10 ** 4)

    def test_many_copies_within_one_another(self):
        # Twelve levels of copies: whoever makes each rest three times, level by level, makes hundreds of thousands.
        job, plan = 7, STEP
        for level in range(12):
            job, plan = ('copies', 3 + level, job), ('copies', plan)
        total = step_count(job)
        self.assert_same(remaining_after(job, plan, total // 2), ('copies', total - total // 2, 7))
        job, plan = 7, STEP
        for level in range(6):
            job, plan = ('repeat', 3, ('copies', 3, job)), ('repeat', ('copies', plan))
        for count in (1, 2, 3 ** 11, 3 ** 12 // 2, 3 ** 12 - 1):
            self.assert_rest(job, plan, count)

    def test_far_inside(self):
        n = 10 ** 14
        job = ('repeat', n, ('seq', (('copies', n, ('seq', (2, -3))), 1)))
        plan = ('repeat', ('seq', (('copies', TWO), STEP)))
        rounds = 2 * n + 1
        for number, ahead, expected in (
            (0, 5, (('par', (('copies', 5, -3), ('copies', n - 5, ('seq', (2, -3))))), 1)),
            (n - 1, n + 7, (('copies', n - 7, -3), 1)),
            (n // 3, 2 * n, (1,)),
        ):
            more = (('repeat', n - number - 1, job[2]),) if number < n - 1 else ()
            expected = expected + more
            left = remaining_after(job, plan, number * rounds + ahead)
            self.assert_same(left, ('seq', expected) if len(expected) > 1 else expected[0])
        # All that is done since the begin is one step of the next copy.
        self.assert_same(remaining_after(('copies', MOST // 2, A), ('copies', ('join', (2,), TWO)), 2 * n + 1),
                         ('par', (-3, ('copies', MOST // 2 - n - 1, A))))

    def test_the_next_step_is_a_step_of_the_rest(self):
        source = random.Random(224)
        for job in GREAT_JOBS:
            plan = best_plan(job)
            total = step_count(job)
            for _ in range(3):
                count = source.randint(0, total)
                left = self.assert_rest(job, plan, count)
                if left is not None and count < total:
                    steps = [step_value(left, choice) for choice in choices(left)]
                    self.assertIn(step_value(job, step_at(job, plan, count)), steps)


class LimitsTest(RemainingChecks):
    def test_exactly_400_nodes(self):
        plan = ('seq', (('repeat', ('seq', (STEP,) * 133)),) + (STEP,) * 132)
        for more, good in ((132, True), (133, False)):
            job = ('seq', (('repeat', 4, ('seq', tuple(range(133)))),) + (7,) * more)
            plan = ('seq', (('repeat', ('seq', (STEP,) * 133)),) + (STEP,) * more)
            self.assertEqual(nodes_in(tidy_by_words(rest_by_words(job, plan, 1))), 400 if good else 401)
            self.assertEqual(self.assert_rest(job, plan, 1) is not None, good)
            self.assertIsNotNone(self.assert_rest(job, plan, 133))
            self.assertIsNotNone(self.assert_rest(job, plan, 2))

    def test_nested_too_deep(self):
        def deep(levels):
            """Nested one level more when the equal parts have become copies."""
            value = ('par', (('seq', (1, 2)), ('seq', (1, 2)), 3))
            for level in range(levels):
                value = (('seq', 'par')[level % 2], (9, value))
            return value
        for levels, good in ((9, True), (10, False)):
            job = deep(levels)
            plan = best_plan(job)
            self.assertTrue(is_job(job))
            self.assertEqual(levels_in(tidy_by_words(job)) <= 13, good)
            self.assertEqual(self.assert_rest(job, plan, 0) is not None, good)
            self.assertIsNotNone(self.assert_rest(job, plan, steps_in(job)))

    def test_counts(self):
        for job, plan in ((C, CP), (P, PP), (5, STEP), (D, ('repeat', TWO)), (EMPTY, ('seq', ())), (HUGE, best_plan(HUGE))):
            total = step_count(job)
            self.assertTrue(is_job(remaining_after(job, plan, 0)))
            self.assert_same(remaining_after(job, plan, total), EMPTY)
            for value in STRANGE + (-1, total + 1, 10 ** 70 - 1, -10 ** 69):
                self.assert_invalid_number(value, remaining_after, job, plan, value)

    def test_the_first_error_is_raised(self):
        for value in NO_JOBS:
            self.assert_raises_only(InvalidJob, remaining_after, value, None, None)
        for job in (B, C, P):
            for value in NO_PLANS:
                self.assert_raises_only(InvalidPlan, remaining_after, job, value, None)
                self.assert_raises_only(InvalidPlan, remaining_after, job, value, 0)
            self.assertRaises(InvalidPlan, remaining_after, job, WIDE, 0)
