"""Promises 7.1 and 7.2: the run of a plan, and what can be told of any place in it."""

import random

from roomprofile.errors import InvalidAddress, InvalidJob, InvalidPlan
from roomprofile.jobs.addresses import precedes, step_value
from roomprofile.jobs.jobs import net, step_count
from roomprofile.plans.best import best_plan
from roomprofile.plans.orders import peak_between, position_of, run_of_plan, step_at, usage_at
from roomprofile.plans.plans import plan_peak, sequential_plan
from roomprofile.runs.runs import is_complete_run, run_usages
from tests.checks import Checks
from tests.great import GREAT_JOBS, MOST
from tests.reference import random_jobs, steps_of, uneven_jobs
from tests.reference_plans import chain_by_words, random_plan, stretches_by_words
from tests.test_plans import NO_PLANS, STEP, THREE, TWO
from tests.values import A, B, C, D, EMPTY_HUGE, HUGE, LARGE, NO_JOBS, P, SMALL, STRANGE, WIDE

SP = TWO
CP = ('par', (SP, THREE), (1, 1, 0, 0, 1))
PP = ('copies', ('join', (2, 1), THREE))
LONG = ('repeat', SP)


class ExamplesTest(Checks):
    def test_examples(self):
        self.assert_same(run_of_plan(C, CP), ((1, 0), (1, 1), (0, 0), (0, 1), (1, 2)))
        self.assert_same(run_of_plan(P, PP), ((0, 0), (0, 1), (1, 0), (1, 1), (0, 2), (1, 2)))
        self.assert_same([step_at(P, PP, 3), step_at(D, LONG, 1001)], [(1, 1), (500, 1)])
        self.assert_same([position_of(P, PP, (0, 2)), position_of(D, LONG, (999999, 0))], [4, 1999998])
        self.assert_same([usage_at(C, CP, 3), usage_at(D, LONG, 1001)], [4, -498])
        self.assert_same([peak_between(C, CP, 1, 2), peak_between(C, CP, 0, 5), peak_between(D, LONG, 1000, 1002)], [3, 4, -498])


class SmallJobsTest(Checks):
    def assert_run(self, job, plan):
        run = tuple(sum(stretches_by_words(job, plan), []))
        self.assert_same(run_of_plan(job, plan), run)
        steps = dict(steps_of(job))
        usages = [0]
        for position, address in enumerate(run):
            self.assert_same(step_at(job, plan, position), address)
            self.assert_same(position_of(job, plan, address), position)
            usages.append(usages[-1] + steps[address])
        for first in range(len(run) + 1):
            self.assert_same(usage_at(job, plan, first), usages[first])
            for last in range(first, len(run) + 1):
                self.assert_same(peak_between(job, plan, first, last), max(usages[first:last + 1]))
        self.assertEqual(max(usages), plan_peak(job, plan))

    def test_small_jobs_step_by_step(self):
        source = random.Random(151)
        for job in random_jobs(152, 200, 9, levels=6) + uneven_jobs(160, 30):
            self.assert_run(job, random_plan(source, job))

    def test_larger_jobs_step_by_step(self):
        source = random.Random(153)
        for job in random_jobs(154, 25, 30, levels=7):
            for plan in (random_plan(source, job), random_plan(source, job, joins=0.9), best_plan(job), sequential_plan(job)):
                self.assert_run(job, plan)

    def test_runs_of_jobs_are_complete_runs(self):
        source = random.Random(155)
        for job in random_jobs(156, 60, 30, levels=7) + [SMALL]:
            plan = random_plan(source, job)
            run = run_of_plan(job, plan)
            self.assertTrue(is_complete_run(job, run))
            self.assertEqual(max(run_usages(job, run)), plan_peak(job, plan))

    def test_rounds_and_copies(self):
        for n in range(6):
            for kind in ('repeat', 'copies'):
                for plan in (TWO, ('join', (2,), TWO), ('join', (1, 1), TWO)):
                    self.assert_run((kind, n, A), (kind, plan))
        for outer in ('repeat', 'copies'):
            for inner in ('repeat', 'copies'):
                for n in range(4):
                    job = (outer, 4, (inner, n, ('seq', (3, -5))))
                    self.assert_run(job, (outer, (inner, TWO)))
                    many = len(chain_by_words(job[2], (inner, TWO)))
                    sizes = (1, many - 1) if many > 1 else (1,) * many
                    self.assert_run(job, (outer, ('join', sizes, (inner, TWO))))

    def test_empty_jobs(self):
        for job in (('seq', ()), ('repeat', 0, HUGE), EMPTY_HUGE, ('copies', MOST, ('repeat', MOST, ('par', ())))):
            for plan in (best_plan(job), ('join', (), best_plan(job))):
                self.assert_same(run_of_plan(job, plan), ())
                self.assert_same([usage_at(job, plan, 0), peak_between(job, plan, 0, 0)], [0, 0])
                self.assert_invalid_number(0, step_at, job, plan, 0)
                self.assert_raises_only(InvalidAddress, position_of, job, plan, ())


class GreatJobsTest(Checks):
    def sample(self, source, total):
        """Some numbers from 0 to the total, with both ends."""
        found = {0, 1, 2, total // 2, total - 2, total - 1, total} | {source.randint(0, max(0, total)) for _ in range(2)}
        return sorted(number for number in found if 0 <= number <= total)

    def plans(self, source, job):
        yield best_plan(job)
        plan = random_plan(source, job, joins=0.9) if job[0] != 'par' or len(job[1]) < 100 else None
        yield sequential_plan(job) if plan is None or chain_by_words(job, plan) is None else plan

    def test_positions_and_addresses(self):
        source = random.Random(157)
        for job in GREAT_JOBS:
            total = step_count(job)
            for plan in self.plans(source, job):
                before = None
                for position in self.sample(source, total - 1):
                    address = step_at(job, plan, position)
                    self.assert_same(position_of(job, plan, address), position)
                    change = usage_at(job, plan, position + 1) - usage_at(job, plan, position)
                    self.assertEqual(change, step_value(job, address))
                    if before is not None:
                        self.assertFalse(precedes(job, address, before))
                    before = address

    def test_peaks(self):
        source = random.Random(158)
        for job in GREAT_JOBS:
            total = step_count(job)
            for plan in self.plans(source, job):
                self.assertEqual(usage_at(job, plan, total), net(job))
                self.assertEqual(peak_between(job, plan, 0, total), plan_peak(job, plan))
                marks = self.sample(source, total)
                for first, last in zip(marks, marks[1:]):
                    near = range(first, min(last, first + 4) + 1)
                    usages = [usage_at(job, plan, count) for count in near]
                    self.assertEqual(peak_between(job, plan, near[0], near[-1]), max(usages))
                    self.assertEqual(peak_between(job, plan, first, first), usages[0])
                    middle = source.randint(first, last)
                    halves = (peak_between(job, plan, first, middle), peak_between(job, plan, middle, last))
                    self.assertEqual(peak_between(job, plan, first, last), max(halves))
                    end = source.choice(marks[marks.index(last):])
                    halves = (peak_between(job, plan, first, last), peak_between(job, plan, last, end))
                    self.assertEqual(peak_between(job, plan, first, end), max(halves))

    def test_rounds_and_copies_in_closed_form(self):
        n = 10 ** 29
        rounds = ('repeat', n, ('seq', (3, -5, 1)))
        plan = ('repeat', THREE)
        source = random.Random(159)
        for _ in range(200):
            number = source.randint(0, n - 1)
            self.assert_same(step_at(rounds, plan, 3 * number + 1), (number, 1))
            self.assert_same(position_of(rounds, plan, (number, 2)), 3 * number + 2)
            self.assert_same(usage_at(rounds, plan, 3 * number + 2), -number - 2)
            last = source.randint(number, n - 1)
            self.assert_same(peak_between(rounds, plan, 3 * number + 2, 3 * last + 2), -number + 2 - (last == number) * 4)
        copies = ('copies', n, ('seq', (3, -5, 1)))
        plan = ('copies', ('join', (2, 1), THREE))
        for _ in range(200):
            number = source.randint(0, n - 1)
            self.assert_same(step_at(copies, plan, 2 * number + 1), (number, 1))
            self.assert_same(step_at(copies, plan, 2 * n + number), (number, 2))
            self.assert_same(position_of(copies, plan, (number, 1)), 2 * number + 1)
            self.assert_same(position_of(copies, plan, (number, 2)), 2 * n + number)
            self.assert_same(usage_at(copies, plan, 2 * number + 1), -2 * number + 3)
            self.assert_same(usage_at(copies, plan, 2 * n + number), number - 2 * n)
        self.assert_same(peak_between(copies, plan, 1, 3 * n), 3)
        self.assert_same(peak_between(copies, plan, 2, 3 * n), 1)
        self.assert_same(peak_between(copies, plan, 3 * n // 2 + 1, 3 * n), max(-3 * n // 2 + 3, -n))


class WrongInputsTest(Checks):
    def test_positions(self):
        for job, plan in ((C, CP), (P, PP), (D, LONG), (5, STEP)):
            total = step_count(job)
            step_at(job, plan, 0)
            step_at(job, plan, total - 1)
            usage_at(job, plan, total)
            for value in STRANGE + (-1, total, 10 ** 70 - 1):
                self.assert_invalid_number(value, step_at, job, plan, value)
            for value in STRANGE + (-1, total + 1, 10 ** 70 - 1):
                self.assert_invalid_number(value, usage_at, job, plan, value)
                self.assert_invalid_number(value, peak_between, job, plan, value, 0)
                self.assert_invalid_number(value, peak_between, job, plan, value, None)
                self.assert_invalid_number(value, peak_between, job, plan, 0, value)
            self.assert_invalid_number(0, peak_between, job, plan, 1, 0)
            self.assert_invalid_number(total - 1, peak_between, job, plan, total, total - 1)
            peak_between(job, plan, total, total)

    def test_addresses(self):
        for job, plan, wrong in (
            (C, CP, ((0,), (0, 2), (1, 3), (2, 0), (-1, 0), (0, 0, 0))), (5, STEP, ((0,), (0, 0))),
            (D, LONG, ((10 ** 6, 0), (-1, 0), (0, 2), (0,), ())), (P, PP, ((2, 0), (0, 3), (True, 0), (0, False))),
        ):
            for address in STRANGE + wrong + (0, 1, 10 ** 70 - 1, ('0', '0'), [0, 0], ([0], 0)):
                self.assert_raises_only(InvalidAddress, position_of, job, plan, address)
            self.assertRaises(InvalidAddress, position_of, job, plan, WIDE)

    def test_small_jobs(self):
        self.assertEqual(len(run_of_plan(SMALL, ('repeat', STEP))), 400)
        self.assert_too_many(400, run_of_plan, LARGE, ('repeat', STEP))
        self.assert_too_many(400, run_of_plan, LARGE, None)
        for job in (LARGE, HUGE):
            plan = best_plan(job)
            total = step_count(job)
            self.assertEqual(position_of(job, plan, step_at(job, plan, total - 1)), total - 1)
            self.assertEqual(usage_at(job, plan, total), net(job))
            self.assertEqual(peak_between(job, plan, 0, total), plan_peak(job, plan))
        for index in (0, 1, 200, 398, 399):
            self.assert_same(step_at(SMALL, ('repeat', STEP), index), (index,))

    def test_the_first_error_is_raised(self):
        functions = (
            (run_of_plan, ()), (step_at, (None,)), (position_of, (None,)), (usage_at, (None,)), (peak_between, (None, None)),
        )
        for function, more in functions:
            for value in NO_JOBS:
                self.assert_raises_only(InvalidJob, function, value, None, *more)
            for value in NO_PLANS:
                self.assert_raises_only(InvalidPlan, function, C, value, *more)
                self.assert_raises_only(InvalidPlan, function, B, value, *more)
            self.assertRaises(InvalidPlan, function, C, WIDE, *more)
