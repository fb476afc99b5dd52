"""Promise 6.3: the plan whose chain has the profile of the job."""

import itertools
import random

from roomprofile.errors import InvalidJob
from roomprofile.jobs.jobs import mirror
from roomprofile.plans.best import best_plan
from roomprofile.plans.plans import chain, chain_profile, is_plan, plan_peak
from roomprofile.profiles.profiles import profile
from tests.checks import Checks
from tests.great import GREAT_JOBS, MOST
from tests.reference import Order, normal_steps, profile_of, random_job, random_jobs, random_profile, reversed_profile, uneven_jobs
from tests.reference_plans import chain_by_words, profile_by_words, stretches_by_words
from tests.values import A, B, C, D, EMPTY_HUGE, HUGE, NO_JOBS, P, WIDE


class BestPlanTest(Checks):
    def assert_best(self, job, expected):
        plan = best_plan(job)
        self.assertIs(is_plan(job, plan), True)
        segments = chain(job, plan)
        self.assert_same(profile_by_words(segments), expected)
        self.assert_same(chain_profile(segments), expected)
        self.assertEqual(plan_peak(job, plan), expected[1])

    def test_examples(self):
        for job in (A, B, C, D, P, 5, -5, 0, ('seq', ()), EMPTY_HUGE, HUGE):
            self.assert_best(job, profile(job))
        self.assert_same(chain_profile(chain(P, best_plan(P))), (10, 10, ((0, 0),), ((10, 0),)))

    def test_small_jobs_state_by_state(self):
        for job in random_jobs(141, 400, 8) + random_jobs(142, 200, 9, levels=6, largest=3) + uneven_jobs(148, 200):
            self.assert_best(job, profile_of(job))
            self.assertIsNotNone(chain_by_words(job, best_plan(job)))

    def test_the_least_peak_of_all_runs(self):
        for job in random_jobs(143, 100, 6):
            order = Order(job)
            least = min(order.peak(run) for run in order.complete_runs())
            run = sum(stretches_by_words(job, best_plan(job)), [])
            self.assertEqual(order.peak(run), least)

    def test_parallel_parts_that_go_down_and_up(self):
        source = random.Random(144)
        for _ in range(300):
            parts = tuple(('seq', tuple(source.randint(-9, 9) for _ in range(source.randint(1, 6))))
                          for _ in range(source.randint(2, 3)))
            self.assert_best(('par', parts), profile_of(('par', parts)))

    def test_parts_that_go_down_and_up_many_times(self):
        source = random.Random(147)
        for _ in range(150):
            profiles = [random_profile(source, 9) for _ in range(source.randint(2, 4))]
            profiles = [source.choice([value, reversed_profile(value)]) for value in profiles]
            parts = tuple(('seq', normal_steps(value)) for value in profiles)
            self.assert_best(('par', parts), profile(('par', parts)))
            count = source.choice([2, 3, 10 ** 20])
            self.assert_best(('copies', count, parts[0]), profile(('copies', count, parts[0])))
            self.assert_best(('repeat', count, ('par', parts)), profile(('repeat', count, ('par', parts))))

    def test_copies_that_go_down_and_up(self):
        source = random.Random(145)
        for _ in range(200):
            job = ('copies', source.randint(2, 3), ('seq', tuple(source.randint(-9, 9) for _ in range(source.randint(1, 5)))))
            self.assert_best(job, profile_of(job))
        for steps in itertools.product((-3, -1, 2, 4), repeat=4):
            self.assert_best(('copies', 2, ('seq', steps)), profile_of(('copies', 2, ('seq', steps))))

    def test_rounds_of_both_directions(self):
        for steps in itertools.product((-3, -1, 2, 4), repeat=3):
            for n in range(5):
                self.assert_best(('repeat', n, ('seq', steps)), profile_of(('repeat', n, ('seq', steps))))

    def test_great_jobs(self):
        for index, job in enumerate(GREAT_JOBS):
            with self.subTest(index=index):
                self.assert_best(job, profile(job))
                self.assert_best(mirror(job), profile(mirror(job)))

    def test_great_counts(self):
        source = random.Random(146)
        for _ in range(150):
            job = random_job(source, 6)
            for kind in ('repeat', 'copies'):
                count = source.randint(0, MOST // 6)
                self.assert_best((kind, count, job), profile((kind, count, job)))
                other = ('copies' if kind == 'repeat' else 'repeat', source.randint(0, 10 ** 9), (kind, 10 ** 9, job))
                self.assert_best(('par', (other, job)), profile(('par', (other, job))))

    def test_jobs_with_the_longest_chains(self):
        for job in (
            ('seq', (('repeat', 3, 5), ('repeat', 3, -5)) * 99),
            ('repeat', MOST // 10 ** 4, ('seq', (('repeat', 3, 5), ('repeat', 3, -6)) * 99)),
            ('repeat', 5, ('seq', tuple((-1) ** at * at for at in range(398)))),
            ('repeat', 5, ('repeat', 5, ('repeat', 5, ('repeat', 5, ('seq', tuple((-1) ** at * at for at in range(395))))))),
            ('par', tuple(('repeat', 3, ('seq', (at, -2 * at))) for at in range(99))),
        ):
            self.assert_best(job, profile(job))

    def test_wrong_jobs(self):
        for value in NO_JOBS:
            self.assert_raises_only(InvalidJob, best_plan, value)
        self.assertRaises(InvalidJob, best_plan, WIDE)
