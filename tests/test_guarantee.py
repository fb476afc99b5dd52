"""Promise 0.7, over the whole program."""

import random

from roomprofile.barriers.find import find_barrier
from roomprofile.barriers.judge import is_barrier
from roomprofile.decisions.certificates import certificate, is_certificate
from roomprofile.errors import NotEnough, TooMany
from roomprofile.exchange.compare import are_exchangeable, can_replace, is_separation, separation
from roomprofile.exchange.contexts import capacity_in
from roomprofile.jobs.jobs import is_job, step_count, tidy
from roomprofile.keeper.keeper import Keeper
from roomprofile.library.library import Library
from roomprofile.plans.best import best_plan
from roomprofile.plans.orders import peak_between, run_of_plan, usage_at
from roomprofile.plans.plans import chain_profile, chain, is_plan, plan_peak
from roomprofile.profiles.profiles import normal_form, profile
from roomprofile.progress.choices import choices, do_step, remaining_after
from roomprofile.runs.runs import is_complete_run, run_peak
from roomprofile.text.formats import job_text, paper_text, parse_paper
from roomprofile.text.shell import Shell
from tests.changes import changes_of
from tests.checks import Checks
from tests.great import GREAT_JOBS
from tests.reference import profile_of, random_job, random_jobs, uneven_jobs
from tests.reference_barriers import is_barrier_by_words
from tests.reference_plans import random_plan
from tests.reference_progress import steps_in

WORDS = ('plan', 'barrier', 'step', 'net', 'seq', 'par', 'join', 'part', 'front', 'high')
NAMES = ('a', 'b', 'c', 'd')


class GuaranteeChecks(Checks):
    def assert_decided(self, job, capacity, least):
        """There is an order of all steps within the capacity, or a barrier, and never both."""
        kind, value = certificate(job, capacity)
        self.assertEqual(kind, 'plan' if capacity >= least else 'barrier')
        self.assertEqual(find_barrier(job, capacity) is None, kind == 'plan')
        if kind == 'plan':
            self.assertIs(is_plan(job, value), True)
            self.assertLessEqual(plan_peak(job, value), capacity)
            self.assertIs(is_barrier(job, capacity, find_barrier(job, least - 1)), False)
        else:
            self.assertIs(is_barrier(job, capacity, value), True)
            self.assertTrue(is_barrier_by_words(job, capacity, value))
            self.assertGreater(plan_peak(job, best_plan(job)), capacity)

    def assert_moment(self, job, usage, capacity):
        """What is left of a job after steps with this usage, within a capacity."""
        left = capacity - usage
        self.assert_decided(job, left, profile(job)[1])


class MomentsTest(GuaranteeChecks):
    def test_partly_done_runs_of_small_jobs(self):
        source = random.Random(321)
        for job in random_jobs(322, 100, 8, levels=6) + uneven_jobs(323, 40, 100):
            left, usage = job, 0
            for _ in range(steps_in(job) + 1):
                least = profile_of(left)[1]
                for capacity in (usage + least - 1, usage + least, usage, -1, source.randint(-3, 12)):
                    self.assert_decided(left, capacity - usage, least)
                if choices(left):
                    choice = source.choice(choices(left))
                    before = left
                    left = do_step(left, choice)
                    usage += profile(before)[0] - profile(left)[0]

    def test_partly_done_plans_of_great_jobs(self):
        source = random.Random(324)
        for job in GREAT_JOBS:
            total = step_count(job)
            plan = best_plan(job)
            for count in (0, source.randint(0, total), total):
                try:
                    left = remaining_after(job, plan, count)
                except TooMany:
                    continue
                usage = usage_at(job, plan, count)
                least = profile(left)[1]
                for capacity in (usage + least, usage + least - 1, profile(job)[1]):
                    self.assert_moment(left, usage, capacity)
                # The plan itself shows that what is left needs no more than the whole.
                self.assertLessEqual(usage + least, peak_between(job, plan, count, total))

    def test_several_jobs_at_once(self):
        source = random.Random(325)
        for _ in range(60):
            jobs = [random_job(source, source.randint(0, 6)) for _ in range(source.randint(0, 4))]
            joint = ('par', tuple(jobs))
            if is_job(joint):
                least = profile(joint)[1]
                for capacity in (least - 1, least, source.randint(-2, 20)):
                    self.assert_decided(joint, capacity, least)


class OrdersTest(GuaranteeChecks):
    def test_each_step_and_usage_of_a_plan(self):
        for job in random_jobs(326, 120, 12, levels=6) + uneven_jobs(327, 60):
            plan = best_plan(job)
            run = run_of_plan(job, plan)
            self.assertIs(is_complete_run(job, run), True)
            self.assertEqual(run_peak(job, run), profile(job)[1])
            self.assertEqual(chain_profile(chain(job, plan)), profile(job))

    def test_one_order_is_as_good_as_the_job(self):
        for job in random_jobs(328, 60, 9) + uneven_jobs(329, 60) + list(GREAT_JOBS):
            steps = ('seq', normal_form(profile(job)))
            if is_job(steps):
                self.assertIs(are_exchangeable(job, steps), True)

    def test_exchange(self):
        source = random.Random(330)
        jobs = random_jobs(331, 60, 6) + uneven_jobs(332, 20, 60)
        for _ in range(400):
            first, second = source.choice(jobs), source.choice(jobs)
            self.assertIs(are_exchangeable(first, second), profile_of(first) == profile_of(second))
            for one, two in ((first, second), (second, first)):
                value = separation(one, two)
                self.assertEqual(value is None, can_replace(one, two))
                self.assertIs(is_separation(one, two, value), True)
                if value is not None:
                    self.assertTrue(capacity_in(value[0], two) <= value[1] < capacity_in(value[0], one))

    def test_one_part_changed(self):
        for job in random_jobs(333, 25, 5):
            peak = profile_of(job)[1]
            for capacity, value in ((peak, certificate(job, peak)), (peak - 1, certificate(job, peak - 1))):
                for other in changes_of(value, words=WORDS):
                    if is_certificate(job, capacity, other):
                        self.assertEqual(other[0], 'plan' if capacity >= peak else 'barrier')
                        if other[0] == 'plan':
                            self.assertLessEqual(run_peak(job, run_of_plan(job, other[1])), capacity)
                        else:
                            self.assertTrue(is_barrier_by_words(job, capacity, other[1]))


class KeptGuaranteeTest(GuaranteeChecks):
    def joint(self, keeper):
        return ('par', tuple(keeper.remaining(name) for name in keeper.names() if steps_in(keeper.remaining(name)) > 0))

    def test_moments_of_a_keeper(self):
        source = random.Random(334)
        for index in range(40):
            keeper = Keeper(10 ** 6)
            for name, job in zip(NAMES, random_jobs(4000 + index, 3, 6)):
                keeper.admit(name, job)
            keeper.set_capacity(max(0, keeper.need()) + source.choice([0, 0, 2]))
            while True:
                joint = self.joint(keeper)
                self.assert_moment(joint, keeper.usage(), keeper.capacity())
                self.assertEqual(certificate(joint, keeper.capacity() - keeper.usage())[0], 'plan')
                for name in keeper.names():
                    for choice in choices(keeper.remaining(name)):
                        self.assertIs(keeper.refusal(name, choice) is None, (name, choice) in keeper.grantable())
                granted = keeper.grantable()
                if not granted:
                    break
                keeper.grant(*source.choice(granted))
                self.assertLessEqual(keeper.usage(), keeper.capacity())
            self.assertEqual((len(keeper), self.joint(keeper)), (0, ('par', ())))

    def test_the_plan_of_all_that_is_left_is_granted(self):
        for index in range(60):
            jobs = random_jobs(5000 + index, 3, 7)
            keeper = Keeper(10 ** 6)
            for name, job in zip(NAMES, jobs):
                keeper.admit(name, job)
            keeper.set_capacity(max(0, keeper.need()))
            highest = [0]
            while (found := keeper.next_grant()) is not None:
                keeper.grant(*found)
                highest.append(keeper.usage())
            self.assertEqual(len(keeper), 0)
            self.assertLessEqual(max(highest), keeper.capacity())
            self.assertEqual(max(highest) <= max(0, profile(tidy(('par', tuple(jobs))))[1]), True)

    def test_within_the_shell(self):
        source = random.Random(335)
        for index in range(25):
            shell = Shell()
            for name, job in zip(NAMES, random_jobs(6000 + index, 3, 6)):
                shell.run(f'define {name} {job_text(job)}')
            shell.run_all(('define all par(use(a), use(b), use(c))', f'keeper {10 ** 6}', 'admit a', 'admit b', 'admit c'))
            need = shell.run('need')
            self.assertEqual(need, shell.run('capacity all'))
            shell.run(f'resize {max(0, int(need))}')
            meaning = shell.library().expand('all')
            for capacity in (int(need) - 1, int(need)):
                value = parse_paper(shell.run(f'certificate all {capacity}'))
                self.assertIs(is_certificate(meaning, capacity, value), True)
                self.assertEqual(value[0], 'plan' if capacity >= int(need) else 'barrier')
            while (texts := shell.run('grantable')) != '-':
                for name in ('a', 'b', 'c'):
                    for choice in choices(shell.keeper().remaining(name)):
                        text = f'{name} {paper_text(choice)}'
                        refusal = parse_paper(shell.run('refusal ' + text))
                        self.assertEqual(refusal is None, text in texts.split(', '))
                        if refusal is not None:
                            self.assertRaises(NotEnough, shell.run, 'grant ' + text)
                shell.run('grant ' + source.choice(texts.split(', ')))
                self.assertLessEqual(int(shell.run('usage')), int(shell.run('limit')))
            self.assertEqual((len(shell.keeper()), shell.run('next'), shell.run('finish 9')), (0, 'none', '0'))

    def test_finishing_within_the_shell(self):
        for index in range(40):
            shell = Shell()
            jobs = random_jobs(7000 + index, 4, 9)
            for name, job in zip(NAMES, jobs):
                shell.run_all((f'define {name} {job_text(job)}',))
            shell.run(f'keeper {10 ** 6}')
            for name in NAMES:
                shell.run('admit ' + name)
            shell.run('resize ' + str(max(0, int(shell.run('need')))))
            self.assertEqual(shell.run('finish 400'), str(sum(map(steps_in, jobs))))
            self.assertEqual(len(shell.keeper()), 0)


class LibraryGuaranteeTest(GuaranteeChecks):
    def test_a_name_that_can_be_redefined_raises_no_least_capacity(self):
        source = random.Random(336)
        found = {True: 0, False: 0}
        for index in range(150):
            jobs = random_jobs(8000 + index, 4, 4)
            library = Library()
            library.define_all((('a', jobs[0]), ('b', ('par', (('use', 'a'), jobs[1]))), ('c', ('seq', (jobs[2], ('use', 'b'), ('use', 'a'))))))
            before = {name: library.profile(name) for name in 'abc'}
            other = source.choice([jobs[3], ('seq', normal_form(before['a'])), ('seq', (jobs[0], -1)), ('seq', (-2, jobs[0], 1))])
            can = library.can_redefine('a', other)
            impact = library.impact('a', other)
            found[can] += 1
            library.redefine('a', other)
            for name in 'abc':
                self.assertEqual(library.profile(name) != before[name], name in impact)
                if can:
                    self.assertIs(can_replace(library.expand(name), ('seq', normal_form(before[name]))), True)
        self.assertGreater(min(found.values()), 10)

    def test_plans_of_any_origin(self):
        source = random.Random(337)
        for job in random_jobs(338, 80, 8):
            plan = random_plan(source, job)
            least = profile_of(job)[1]
            self.assertGreaterEqual(plan_peak(job, plan), least)
            self.assertIs(is_certificate(job, plan_peak(job, plan), ('plan', parse_paper(paper_text(plan)))), True)
