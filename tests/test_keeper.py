"""Promises 12.1 to 12.3: a keeper, which grants a step exactly if everything can still be finished afterwards."""

import random

from roomprofile.barriers.judge import is_barrier
from roomprofile.errors import InvalidChoice, InvalidJob, InvalidOperation, NameConflict, NotEnough, UnknownName
from roomprofile.jobs.addresses import step_value
from roomprofile.jobs.jobs import is_job, mirror, net, node_count, step_count
from roomprofile.keeper.keeper import MAX_JOBS, Keeper
from roomprofile.plans.best import best_plan
from roomprofile.plans.plans import plan_peak
from roomprofile.profiles.profiles import profile
from roomprofile.progress.choices import choices
from tests.checks import Checks
from tests.great import GREAT_JOBS
from tests.reference import profile_of, random_job, random_jobs, state_count, uneven_jobs
from tests.reference_barriers import is_barrier_by_words
from tests.reference_keeper import PlainKeeper, attempt, joint_job
from tests.reference_progress import choices_by_words, steps_in
from tests.values import A, B, C, EMPTY_HUGE, HUGE, INTEGERS, NO_JOBS, NO_NUMBERS, STRANGE, TUPLES, WIDE, nested

EMPTY = ('seq', ())
NAMES = ('a', 'b', 'ab', 'zz', 'work')
NO_NAMES = tuple(value for value in STRANGE if value != 'seq') + INTEGERS + TUPLES + (
    'A', 'aB', 'a b', ' a', 'a ', 'a1', '1', 'abcdefghi', '-', 'a-b', 'a_b', '\u00e4', 'a\u0131', '\u03b1', 'a\n', b'a', ('a',), ['a'],
    {'a': 1}, 'aaaaaaaa' * 10 ** 5,
)
GREAT = 10 ** 61 - 1


class KeeperChecks(Checks):
    def assert_not_enough(self, need, function, *arguments):
        self.assertEqual(self.assert_raises_only(NotEnough, function, *arguments).least, need)

    def assert_unknown(self, name, function, *arguments):
        self.assert_same(self.assert_raises_only(UnknownName, function, *arguments).name, name)

    def assert_like(self, keeper, plain):
        """The keeper says of itself what a plain one says."""
        self.assert_same(keeper.capacity(), plain.limit)
        self.assert_same(keeper.names(), tuple(sorted(plain.jobs)))
        self.assert_same(keeper.usage(), plain.usage())
        self.assert_same(keeper.log(), tuple(plain.operations))
        for name, (job, usage) in plain.jobs.items():
            self.assert_same((keeper.remaining(name), keeper.usage_of(name)), (job, usage))
        left = [name for name, (job, _) in plain.jobs.items() if steps_in(job) > 0]
        self.assertEqual(len(keeper), len(left))
        self.assertEqual(str(keeper), f'keeper with {len(plain.jobs)} jobs, usage {plain.usage()} of {plain.limit}')


def keeper_of(capacity, *jobs):
    keeper = Keeper(capacity)
    for name, job in zip('abcdefghijklmnopqrst', jobs):
        keeper.admit(name, job)
    return keeper


def need_by_states(keeper):
    jobs = {name: (keeper.remaining(name), keeper.usage_of(name)) for name in keeper.names()}
    return keeper.usage() + profile_of(joint_job(jobs))[1]


def joint_of(keeper, changed=None, left=None):
    """The joint job, where a job may be changed."""
    jobs = {name: (keeper.remaining(name) if name != changed else left, 0) for name in keeper.names()}
    return joint_job(jobs)


class ExamplesTest(KeeperChecks):
    def test_examples(self):
        self.assert_not_enough(5, Keeper(4).admit, 'a', A)
        keeper = keeper_of(5, A, B)
        self.assert_same([keeper.need(), keeper.grant('b', (0,)), keeper.remaining('b'), str(keeper)],
                         [4, 3, ('seq', (-4, 2)), 'keeper with 2 jobs, usage 3 of 5'])
        keeper = Keeper(5)
        keeper.admit('x', ('seq', (2, 3, -5)))
        keeper.admit('y', ('seq', (2, 3, -5)))
        self.assert_same(keeper.grant('x', (0,)), 2)
        joint = ('par', (('seq', (3, -5)), ('seq', (3, -5))))
        self.assertIs(is_barrier(joint, 1, keeper.refusal('y', (0,))), True)
        self.assertIsNone(keeper.refusal('x', (0,)))
        self.assert_same(keeper.grantable(), (('x', (0,)),))
        self.assert_same(keeper.next_grant(), ('x', (0,)))
        self.assert_not_enough(7, keeper.grant, 'y', (0,))

    def test_examples_of_changes(self):
        keeper = Keeper(4)
        self.assertIsNone(keeper.admit('a', -3))
        self.assertIsNone(keeper.admit('b', ('seq', (6, -6))))
        self.assert_same(keeper.grant('a', ()), -3)
        self.assert_not_enough(6, keeper.remove, 'a')
        keeper = Keeper(5)
        keeper.admit('a', 5)
        keeper.grant('a', ())
        self.assertIsNone(keeper.undo())
        self.assert_same([keeper.usage(), keeper.log()], [0, (('admit', 'a', 5),)])

    def test_new_keepers(self):
        keeper = Keeper(5)
        self.assert_same([keeper.capacity(), keeper.usage(), keeper.need(), keeper.names(), keeper.grantable(), keeper.next_grant(),
                          keeper.log(), len(keeper), str(keeper)], [5, 0, 0, (), (), None, (), 0, 'keeper with 0 jobs, usage 0 of 5'])
        self.assertEqual(MAX_JOBS, 20)
        self.assertEqual(str(keeper_of(5, -1)), 'keeper with 1 jobs, usage 0 of 5')


class DrawnOperationsTest(KeeperChecks):
    def drawn_call(self, source, plain):
        """A call, with choices that are mostly good ones."""
        name = source.choice(NAMES)
        if plain.jobs and source.random() < 0.8:
            name = source.choice(sorted(plain.jobs))
        kind = source.choice(['admit', 'grant', 'grant', 'grant', 'grant', 'set_capacity', 'remove', 'undo'])
        if kind == 'admit':
            return (kind, source.choice(NAMES), random_job(source, source.randint(0, 4), largest=4))
        if kind == 'grant':
            known = choices_by_words(plain.jobs[name][0]) if name in plain.jobs else []
            return (kind, name, source.choice(known + [(0,), (0, 0), ()]))
        if kind == 'set_capacity':
            return (kind, source.randint(-1, 12))
        return (kind, name) if kind == 'remove' else (kind,)

    def test_drawn_calls(self):
        source = random.Random(251)
        errors = {}
        for _ in range(60):
            capacity = source.randint(0, 12)
            keeper, plain = Keeper(capacity), PlainKeeper(capacity)
            for _ in range(30):
                kind, *arguments = self.drawn_call(source, plain)
                if kind == 'admit' and state_count(joint_job(plain.jobs)) > 80:
                    continue
                expected = attempt(getattr(plain, kind), *arguments)
                self.assert_same(attempt(getattr(keeper, kind), *arguments)[1:], expected[1:])
                errors[expected[0]] = errors.get(expected[0], 0) + 1
                self.assert_like(keeper, plain)
                self.assert_same(keeper.need(), plain.need())
                self.assertLessEqual(keeper.need(), keeper.capacity())
            self.assert_same(keeper.grantable(), plain.grantable())
        self.assertEqual(len(errors), 7, errors)

    def test_each_operation_taken_back(self):
        source = random.Random(252)
        for _ in range(60):
            keeper, plain = Keeper(12), PlainKeeper(12)
            for _ in range(25):
                kind, *arguments = self.drawn_call(source, plain)
                if kind != 'undo' and (kind != 'admit' or state_count(joint_job(plain.jobs)) < 60):
                    attempt(getattr(plain, kind), *arguments)
                    attempt(getattr(keeper, kind), *arguments)
            while plain.operations:
                self.assert_like(keeper, plain)
                self.assert_same(keeper.need(), plain.need())
                plain.undo()
                self.assertIsNone(keeper.undo())
            self.assert_like(keeper, plain)
            self.assertTrue(keeper == Keeper(12))
            self.assert_raises_only(InvalidOperation, keeper.undo)
            self.assert_like(keeper, plain)

    def test_an_operation_after_undo(self):
        keeper = keeper_of(9, A, B)
        keeper.grant('a', (0,))
        keeper.undo()
        keeper.grant('b', (0,))
        keeper.undo()
        keeper.undo()
        self.assert_same((keeper.names(), keeper.log()), (('a',), (('admit', 'a', A),)))
        keeper.set_capacity(7)
        keeper.remove('a')
        self.assert_same(keeper.log(), (('admit', 'a', A), ('capacity', 7), ('remove', 'a')))
        keeper.undo()
        keeper.undo()
        self.assert_same((keeper.names(), keeper.capacity()), (('a',), 9))


class WorkedOffTest(KeeperChecks):
    def assert_each_choice(self, keeper):
        """What is granted and refused is held against the least peaks of all that is left, state by state."""
        plain = PlainKeeper(keeper.capacity())
        plain.jobs = {name: (keeper.remaining(name), keeper.usage_of(name)) for name in keeper.names()}
        granted = []
        for name in keeper.names():
            for choice in choices_by_words(keeper.remaining(name)):
                jobs = plain.jobs_after(name, choice)
                usage = sum(row[1] for row in jobs.values())
                good = usage + profile_of(joint_job(jobs))[1] <= keeper.capacity()
                barrier = keeper.refusal(name, choice)
                if good:
                    granted.append((name, choice))
                    self.assertIsNone(barrier)
                else:
                    left = keeper.capacity() - usage
                    self.assertIs(is_barrier(joint_job(jobs), left, barrier), True)
                    self.assertTrue(is_barrier_by_words(joint_job(jobs), left, barrier))
                    self.assert_not_enough(usage + profile_of(joint_job(jobs))[1], keeper.grant, name, choice)
                if jobs[name][1] <= keeper.usage_of(name):
                    self.assertTrue(good)
        self.assert_same(keeper.grantable(), tuple(granted))
        found = keeper.next_grant()
        self.assertTrue(found in granted if granted else found is None)
        self.assertEqual(bool(granted), len(keeper) > 0)
        return granted

    def test_drawn_grants(self):
        source = random.Random(253)
        refused = 0
        for index in range(80):
            jobs = random_jobs(1000 + index, 3, 4, largest=5) if index % 2 else uneven_jobs(1000 + index, 2, 14)
            if state_count(('par', tuple(jobs))) > 250:
                continue
            keeper = Keeper(10 ** 9)
            for name, job in zip(NAMES, jobs):
                keeper.admit(name, job)
            keeper.set_capacity(max(0, keeper.need()) + source.choice([0, 0, 1]))
            highest = 0
            for _ in range(sum(map(steps_in, jobs))):
                granted = self.assert_each_choice(keeper)
                every = sum(len(choices(keeper.remaining(name))) for name in keeper.names())
                refused += len(granted) < every
                name, choice = source.choice(granted)
                before = keeper.usage()
                self.assertEqual(keeper.grant(name, choice), keeper.usage() - before)
                self.assertEqual(keeper.need(), need_by_states(keeper))
                highest = max(highest, keeper.usage())
            self.assertLessEqual(highest, keeper.capacity())
            self.assertEqual((len(keeper), keeper.grantable(), keeper.next_grant()), (0, (), None))
            self.assertEqual(keeper.usage(), sum(map(net, jobs)))
            for name in keeper.names():
                self.assertEqual(steps_in(keeper.remaining(name)), 0)
        self.assertGreater(refused, 40)

    def test_next_grants_until_there_is_none(self):
        for index in range(120):
            jobs = random_jobs(2000 + index, 5, 9, largest=9)
            keeper = Keeper(GREAT)
            for name, job in zip(NAMES, jobs):
                keeper.admit(name, job)
            keeper.set_capacity(max(0, keeper.need()))
            many = 0
            while (found := keeper.next_grant()) is not None:
                self.assertIn(found, keeper.grantable())
                keeper.grant(*found)
                self.assertLessEqual(keeper.usage(), keeper.capacity())
                many += 1
            self.assertEqual((many, len(keeper)), (sum(map(step_count, jobs)), 0))

    def test_steps_that_give_back(self):
        source = random.Random(254)
        for index in range(60):
            jobs = random_jobs(3000 + index, 4, 8, largest=6)
            keeper = Keeper(GREAT)
            for name, job in zip(NAMES, jobs):
                keeper.admit(name, job)
            keeper.set_capacity(max(0, keeper.need()))
            while keeper.grantable():
                granted = keeper.grantable()
                for name in keeper.names():
                    for choice in choices(keeper.remaining(name)):
                        self.assertTrue((name, choice) in granted or step_value(keeper.remaining(name), choice) > 0)
                keeper.grant(*source.choice(granted))


class GreatJobsTest(KeeperChecks):
    def test_great_jobs(self):
        source = random.Random(255)
        for index, job in enumerate(GREAT_JOBS):
            for turned in (job, mirror(job)):
                if not is_job(('par', (turned,))) or step_count(turned) == 0:
                    continue
                keeper = Keeper(10 ** 60)
                keeper.admit('a', turned)
                keeper.set_capacity(keeper.need())
                self.assertEqual(keeper.need(), profile(turned)[1])
                for _ in range(5):
                    found = keeper.next_grant()
                    if found is None:
                        break
                    keeper.grant(*found)
                    self.assertEqual(keeper.need(), keeper.usage() + profile(joint_of(keeper))[1])
                    self.assertLessEqual(keeper.need(), keeper.capacity())
                    self.assert_some_choices(keeper, source)

    def assert_some_choices(self, keeper, source):
        pairs = [(name, choice) for name in keeper.names() for choice in choices(keeper.remaining(name))]
        for name, choice in source.sample(pairs, min(3, len(pairs))):
            outcome = attempt(keeper.refusal, name, choice)
            before = keeper.usage()
            if outcome == ('returned', None):
                keeper.grant(name, choice)
                self.assertLessEqual(keeper.usage() + plan_peak(joint_of(keeper), best_plan(joint_of(keeper))), keeper.capacity())
                keeper.undo()
            elif outcome[0] == 'returned':
                need = self.assert_raises_only(NotEnough, keeper.grant, name, choice).least
                self.assertGreater(need, keeper.capacity())
                keeper.set_capacity(need)
                self.assertIsNone(keeper.refusal(name, choice))
                keeper.grant(name, choice)
                joint, left = joint_of(keeper), need - keeper.usage()
                keeper.undo()
                keeper.undo()
                self.assertIs(is_barrier(joint, left - (need - keeper.capacity()), outcome[1]), True)
            else:
                self.assert_too_many(400, keeper.grant, name, choice)
                self.assertNotIn((name, choice), keeper.grantable())
            self.assertEqual(keeper.usage(), before)

    def test_great_counts(self):
        n = 10 ** 29
        self.assert_not_enough(5 + 2 * (n - 1), Keeper(4 + 2 * (n - 1)).admit, 'a', ('repeat', n, A))
        keeper = Keeper(5 + 2 * (n - 1))
        keeper.admit('a', ('repeat', n, A))
        keeper.admit('b', ('copies', n, ('seq', (4, -6))))
        # All copies come down first, and what they give is enough for all rounds.
        self.assertEqual(keeper.need(), 4)
        for _ in range(50):
            keeper.grant(*keeper.next_grant())
            self.assertLessEqual(keeper.need(), keeper.capacity())
        keeper.set_capacity(keeper.need())
        self.assertEqual(sum(step_count(keeper.remaining(name)) for name in 'ab'), 4 * n - 50)
        self.assert_not_enough(keeper.need(), keeper.set_capacity, keeper.need() - 1)

    def test_copies_of_copies(self):
        keeper = Keeper(GREAT)
        keeper.admit('a', ('copies', 10 ** 14, ('repeat', 10 ** 15, ('seq', (6, -5, 4)))))
        keeper.set_capacity(keeper.need())
        source = random.Random(256)
        for _ in range(30):
            keeper.grant(*source.choice(keeper.grantable()))
            self.assert_some_choices(keeper, source)


class LimitsTest(KeeperChecks):
    def test_names(self):
        for name in ('a', 'z', 'az', 'abcdefgh', 'zzzzzzzz', 'none', 'seq'):
            keeper = Keeper(5)
            keeper.admit(name, 5)
            self.assert_same((keeper.names(), keeper.grant(name, ())), ((name,), 5))
        keeper = keeper_of(5, 5)
        for value in NO_NAMES:
            for function, more in ((keeper.remaining, ()), (keeper.usage_of, ()), (keeper.admit, (5,)), (keeper.admit, (None,)),
                                   (keeper.grant, ((),)), (keeper.grant, (None,)), (keeper.refusal, (None,)), (keeper.remove, ())):
                self.assert_unknown(value, function, value, *more)
        for function, more in ((keeper.remaining, ()), (keeper.usage_of, ()), (keeper.grant, (None,)), (keeper.refusal, ((),)),
                               (keeper.remove, ())):
            self.assert_unknown('b', function, 'b', *more)
        self.assert_same((keeper.log(), keeper.usage()), ((('admit', 'a', 5),), 0))
        self.assertRaises(UnknownName, keeper.admit, WIDE, 5)

    def test_20_and_21_jobs(self):
        keeper = keeper_of(1000, *range(1, 21))
        self.assertEqual((len(keeper), len(keeper.names())), (20, 20))
        self.assert_too_many(20, keeper.admit, 'z', 1)
        self.assert_too_many(20, keeper.admit, 'z', EMPTY)
        self.assert_too_many(20, keeper.admit, 'z', 10 ** 30)
        self.assert_same(self.assert_raises_only(NameConflict, keeper.admit, 'a', None).name, 'a')
        self.assert_raises_only(InvalidJob, keeper.admit, 'z', None)
        self.assert_not_enough(210, keeper_of(209, *range(1, 20)).admit, 'z', 20)
        keeper_of(210, *range(1, 20)).admit('z', 20)

    def test_finished_jobs_count_among_the_20(self):
        keeper = keeper_of(100, *[EMPTY] * 20)
        self.assertEqual(len(keeper), 0)
        self.assert_too_many(20, keeper.admit, 'z', 1)
        keeper.remove('c')
        keeper.admit('z', 1)

    def test_nodes_of_the_joint_job(self):
        wide = ('par', tuple(range(200)))
        narrow = ('seq', (1,) * 197)
        keeper = keeper_of(10 ** 9, wide)
        self.assertEqual(node_count(('par', (wide, narrow))), 400)
        keeper.admit('b', narrow)
        self.assert_too_many(400, keeper.admit, 'c', 1)
        keeper.admit('c', EMPTY_HUGE)
        keeper.grant('b', (0,))
        keeper.admit('d', 1)
        keeper = keeper_of(10 ** 9, wide)
        self.assert_too_many(400, keeper.admit, 'b', ('seq', (1,) * 198))
        self.assert_same(keeper.log(), (('admit', 'a', wide),))
        self.assert_too_many(400, Keeper(GREAT).admit, 'a', ('par', tuple(range(399))))
        Keeper(GREAT).admit('a', ('par', tuple(range(398))))
        self.assert_too_many(400, Keeper(0).admit, 'a', ('par', tuple(range(399))))

    def test_nesting_and_steps_of_the_joint_job(self):
        Keeper(5).admit('a', nested('seq', 11, 5))
        self.assert_too_many(400, Keeper(5).admit, 'a', nested('seq', 12, 5))
        Keeper(5).admit('a', nested('seq', 12, EMPTY))
        keeper = keeper_of(GREAT, ('repeat', 10 ** 30 - 5, 1), 2)
        self.assert_too_many(400, keeper.admit, 'c', ('copies', 5, 1))
        keeper.admit('c', ('copies', 4, 1))
        self.assert_too_many(400, keeper.admit, 'd', 0)
        keeper.grant('a', (0,))
        keeper.admit('d', 0)

    def test_a_remainder_that_grows(self):
        rounds = ('repeat', 3, ('seq', tuple(range(1, 101))))
        for more, good in ((195, True), (196, False)):
            # Behind the first step there are 99 steps, and the repeat with 102 nodes, in one seq: 202 nodes.
            keeper = keeper_of(GREAT, rounds, ('seq', (1,) * more))
            if good:
                self.assertEqual(keeper.grant('a', (0, 0)), 1)
                self.assertEqual(node_count(joint_of(keeper)), 399)
                keeper.admit('c', 1)
                self.assertEqual(node_count(joint_of(keeper)), 400)
                self.assert_too_many(400, keeper.admit, 'd', 1)
                continue
            keeper.admit('c', 1)
            for _ in range(2):
                self.assert_too_many(400, keeper.grant, 'a', (0, 0))
                self.assert_too_many(400, keeper.refusal, 'a', (0, 0))
            self.assertNotIn(('a', (0, 0)), keeper.grantable())
            self.assert_same(keeper.grantable(), (('b', (0,)), ('c', ())))
            self.assertIn(keeper.next_grant(), keeper.grantable())
            keeper.grant('b', (0,))
            keeper.grant('a', (0, 0))

    def test_a_remainder_that_is_no_job(self):
        keeper = keeper_of(GREAT, ('repeat', 2, ('seq', tuple(range(1, 390)))))
        self.assert_too_many(400, keeper.grant, 'a', (0, 0))
        self.assert_too_many(400, keeper.refusal, 'a', (0, 0))
        self.assertEqual((keeper.grantable(), keeper.next_grant(), len(keeper)), ((), None, 1))
        keeper.admit('b', 7)
        self.assertEqual((keeper.grantable(), keeper.next_grant()), ((('b', ()),), ('b', ())))

    def test_the_next_grant_when_the_best_one_is_too_great(self):
        # It is best to begin with a, whose remainder would be too great.
        keeper = keeper_of(GREAT, ('repeat', 2, ('seq', (-50,) + (1,) * 195)), ('seq', (3, -2)))
        self.assert_too_many(400, keeper.admit, 'c', ('seq', (1,) * 200))
        keeper.admit('c', ('seq', (1,) * 195))
        self.assert_too_many(400, keeper.grant, 'a', (0, 0))
        self.assert_same(keeper.grantable(), (('b', (0,)), ('c', (0,))))
        self.assertIn(keeper.next_grant(), keeper.grantable())

    def test_capacities(self):
        for value in NO_NUMBERS + (-1, 10 ** 61, 10 ** 70 - 1):
            self.assert_invalid_number(value, Keeper, value)
            self.assert_invalid_number(value, Keeper(5).set_capacity, value)
        for value in (0, 1, 10 ** 61 - 1):
            keeper = Keeper(value)
            self.assertEqual(keeper.capacity(), value)
            self.assertIsNone(keeper.set_capacity(value))
            self.assert_same(keeper.log(), (('capacity', value),))
        keeper = Keeper(0)
        keeper.admit('a', ('seq', (-1, 1)))
        self.assert_not_enough(1, keeper.admit, 'b', 1)

    def test_a_capacity_at_the_need_and_one_less(self):
        for job in random_jobs(257, 60, 6) + uneven_jobs(258, 30, 100):
            peak = profile_of(job)[1]
            keeper = Keeper(peak)
            keeper.admit('a', job)
            self.assertEqual((keeper.need(), keeper.set_capacity(peak)), (peak, None))
            if peak > 0:
                self.assert_not_enough(peak, keeper.set_capacity, peak - 1)
                self.assert_not_enough(peak, Keeper(peak - 1).admit, 'a', job)
            self.assertEqual((keeper.capacity(), len(keeper.log())), (peak, 2))

    def test_jobs_that_are_empty_when_they_are_admitted(self):
        keeper = Keeper(0)
        for name, job in zip(NAMES, (EMPTY, ('par', ()), ('repeat', 0, HUGE), EMPTY_HUGE, nested('par', 12, EMPTY))):
            keeper.admit(name, job)
            self.assert_same((keeper.remaining(name), keeper.usage_of(name), len(keeper)), (job, 0, 0))
            self.assert_raises_only(InvalidChoice, keeper.grant, name, ())
        self.assert_same((keeper.grantable(), keeper.next_grant(), keeper.need()), ((), None, 0))
        keeper.admit('step', 0)
        self.assert_same((len(keeper), keeper.grant('step', ()), len(keeper), keeper.remaining('step')), (1, 0, 0, EMPTY))
        keeper.admit('copy', ('copies', 2, 0))
        self.assert_same((keeper.remaining('copy'), keeper.grant('copy', (0,)), keeper.remaining('copy')), (('copies', 2, 0), 0, 0))

    def test_removing(self):
        keeper = keeper_of(4, -3, ('seq', (6, -6)))
        keeper.grant('a', ())
        self.assertEqual((keeper.usage(), keeper.need()), (-3, 3))
        self.assert_not_enough(6, keeper.remove, 'a')
        self.assertEqual((keeper.names(), keeper.usage()), (('a', 'b'), -3))
        keeper.set_capacity(6)
        keeper.remove('a')
        self.assertEqual((keeper.names(), keeper.usage(), keeper.need()), (('b',), 0, 6))
        keeper.grant('b', (0,))
        keeper.remove('b')
        self.assertEqual((keeper.names(), keeper.usage(), keeper.need(), len(keeper)), ((), 0, 0, 0))
        keeper = keeper_of(9, 4, -2, ('seq', (5, -5)))
        keeper.grant('a', ())
        self.assertEqual((keeper.usage(), keeper.need()), (4, 7))
        keeper.remove('a')
        self.assertEqual((keeper.usage(), keeper.need()), (0, 3))
        # A job that is not done yet and would give back is needed by the other one.
        keeper.set_capacity(3)
        self.assert_not_enough(5, keeper.remove, 'b')
        keeper.remove('c')

    def test_the_need_may_be_negative(self):
        keeper = keeper_of(0, ('seq', (-5, 3)), ('seq', (-4, -4)))
        keeper.grant('b', (0,))
        keeper.grant('b', ())
        self.assertEqual(keeper.need(), -8)
        keeper.grant('a', (0,))
        self.assertEqual((keeper.need(), keeper.usage()), (-10, -13))
        keeper.grant('a', ())
        self.assertEqual((keeper.need(), keeper.usage(), len(keeper)), (-10, -10, 0))

    def test_refusals_with_a_usage_below_0(self):
        keeper = keeper_of(0, ('seq', (-9, 4, 4, -6)), ('seq', (5, -5)))
        keeper.grant('a', (0,))
        keeper.grant('b', (0,))
        self.assertEqual(keeper.usage(), -4)
        keeper.grant('a', (0,))
        self.assert_not_enough(4, keeper.grant, 'a', (0,))
        self.assertTrue(is_barrier_by_words(('par', (-6, -5)), -4, keeper.refusal('a', (0,))))


class WrongInputsTest(KeeperChecks):
    def test_jobs_and_choices(self):
        keeper = keeper_of(9, A, C)
        for value in NO_JOBS:
            self.assert_raises_only(InvalidJob, keeper.admit, 'z', value)
            self.assert_same(self.assert_raises_only(NameConflict, keeper.admit, 'a', value).name, 'a')
        for value in STRANGE + INTEGERS + TUPLES + ((False,), [0], (0, False), (1,), (0, 0, 0)):
            if value not in ((0,), (0, 0)) or value.__class__ is list:
                self.assert_raises_only(InvalidChoice, keeper.grant, 'a', value)
                self.assert_raises_only(InvalidChoice, keeper.refusal, 'a', value)
        self.assert_raises_only(InvalidChoice, keeper.grant, 'b', (False, 0))
        self.assertRaises(InvalidJob, keeper.admit, 'z', WIDE)
        self.assertRaises(InvalidChoice, keeper.grant, 'a', WIDE)
        self.assert_same((len(keeper.log()), keeper.usage()), (2, 0))

    def test_calls_that_raise_are_no_operations(self):
        keeper = keeper_of(5, A, B)
        before = (keeper.log(), str(keeper), keeper.remaining('a'), keeper.need())
        for function, arguments in (
            (keeper.admit, ('c', 99)), (keeper.admit, ('a', 1)), (keeper.grant, ('a', (1,))), (keeper.remove, ('c',)),
            (keeper.set_capacity, (3,)), (keeper.set_capacity, (-1,)), (keeper.refusal, ('a', None)),
        ):
            self.assertNotEqual(attempt(function, *arguments)[0], 'returned')
            self.assertEqual((keeper.log(), str(keeper), keeper.remaining('a'), keeper.need()), before)
        keeper.refusal('a', (0,))
        keeper.grantable()
        keeper.next_grant()
        self.assertEqual((keeper.log(), str(keeper), keeper.remaining('a'), keeper.need()), before)
        keeper.undo()
        self.assertEqual(keeper.names(), ('a',))

    def test_equal_keepers(self):
        def of(capacity, *jobs):
            return keeper_of(capacity, *jobs)
        self.assertTrue(of(5, A, B) == of(5, A, B))
        self.assertFalse(of(5, A, B) != of(5, A, B))
        self.assertFalse(of(5, A, B) == of(6, A, B))
        self.assertFalse(of(5, A, B) == of(5, A))
        self.assertFalse(of(5, A, B) == of(5, B, A))
        self.assertFalse(of(5, A) == of(5, ('seq', (A,))))
        first, second = of(5, A, B), Keeper(9)
        second.admit('b', B)
        second.admit('a', A)
        second.set_capacity(5)
        self.assertTrue(first == second)
        self.assertNotEqual(first.log(), second.log())
        second.grant('b', (0,))
        self.assertFalse(first == second)
        first.grant('b', (0,))
        self.assertTrue(first == second)
        left, right = of(5, ('seq', (2, -2)), ('seq', (2, -2))), of(5, ('seq', (2, -2)), ('seq', (2, -2)))
        left.grant('a', (0,))
        right.grant('b', (0,))
        self.assertFalse(left == right)
        used, other = of(9, ('seq', (5, 1))), of(9, ('seq', (4, 1)))
        used.grant('a', (0,))
        other.grant('a', (0,))
        self.assertEqual(used.remaining('a'), other.remaining('a'))
        self.assertFalse(used == other)
        for value in STRANGE + INTEGERS + TUPLES + (A, str(first), Keeper, object()):
            self.assertIs(first == value, False)

    def test_nothing_that_is_returned_changes_the_keeper(self):
        keeper = keeper_of(9, A, C)
        for value in (keeper.names(), keeper.log(), keeper.grantable(), keeper.remaining('b'), keeper.next_grant()):
            self.assertIsInstance(value, tuple)
        self.assert_same(keeper.log(), (('admit', 'a', A), ('admit', 'b', C)))
        self.assertIsNot(keeper.log().__class__, list)
