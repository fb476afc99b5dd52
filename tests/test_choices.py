"""Promises 11.1 and 11.2: choices, and the remainder of a job after a choice."""

import random

from roomprofile.errors import InvalidChoice, InvalidJob
from roomprofile.jobs.addresses import precedes, all_addresses, step_value
from roomprofile.jobs.jobs import is_empty, is_job, mirror, net, step_count, tidy
from roomprofile.progress.choices import choices, do_step, is_choice
from tests.changes import changes_of
from tests.checks import Checks
from tests.great import GREAT_JOBS, MOST
from tests.reference import random_jobs, uneven_jobs
from tests.reference_progress import (
    choices_by_words, form, is_job_by_words, levels_in, nodes_in, remainder_by_words, steps_in, tidy_by_words,
)
from tests.values import A, B, C, D, EMPTY_HUGE, HUGE, INTEGERS, NO_JOBS, P, STRANGE, TUPLES, WIDE, nested

EMPTY = ('seq', ())
EMPTY_JOBS = (EMPTY, ('par', ()), ('repeat', 0, 5), ('copies', 0, HUGE), EMPTY_HUGE, ('par', (EMPTY, ('repeat', 0, A))))


def forked(levels):
    """Copies of copies, with a step beside each: each choice in them leaves more parts beside one another."""
    job = ('seq', (1, 2))
    for level in range(levels):
        job = ('copies', 3, ('seq', (job, level)))
    return job


class ChoicesTest(Checks):
    def test_examples(self):
        self.assert_same([choices(C), choices(P), choices(('seq', (('par', ()), A))), choices(('seq', ()))],
                         [((0, 0), (1, 0)), ((0, 0),), ((1, 0),), ()])
        self.assert_same([is_choice(P, (0, 0)), is_choice(P, (1, 0)), is_choice(C, (1, 1))], [True, False, False])

    def test_small_jobs_row_by_row(self):
        for job in random_jobs(201, 500, 9, levels=6) + uneven_jobs(202, 50):
            found = choices(job)
            self.assert_same(found, tuple(choices_by_words(job)))
            self.assertEqual(list(found), sorted(set(found)))
            self.assertEqual(found == (), is_empty(job))

    def test_no_step_precedes_a_choice(self):
        for job in random_jobs(203, 150, 7, levels=6):
            addresses = all_addresses(job)
            free = [one for one in addresses if not any(precedes(job, other, one) for other in addresses)]
            found = choices(job)
            self.assertLessEqual(set(found), set(free))
            for one in addresses:
                expected = one in free and in_first_copies(job, one)
                self.assertIs(is_choice(job, one), expected)
                self.assertEqual(one in found, expected)

    def test_great_jobs(self):
        for job in GREAT_JOBS:
            for turned in (job, mirror(job)):
                self.assert_same(choices(turned), tuple(choices_by_words(turned)))
        self.assert_same(choices(HUGE), ((0, 0, 0),))
        self.assertEqual(len(choices(('par', tuple(range(399))))), 399)
        self.assert_same(choices(nested('par', 12, 5)), ((0,) * 12,))

    def test_empty_jobs_and_a_step(self):
        for job in EMPTY_JOBS:
            self.assert_same(choices(job), ())
            self.assert_no([is_choice(job, value) for value in ((), (0,), (0, 0))])
        self.assert_same(choices(0), ((),))
        self.assert_yes([is_choice(5, ()), is_choice(-5, ())])
        self.assert_no([is_choice(5, value) for value in ((0,), 0, None, [], '')])

    def test_counts_of_0_and_1(self):
        self.assert_same(choices(('seq', (('repeat', 0, A), ('copies', 0, A), ('repeat', 1, B)))), ((2, 0, 0),))
        self.assert_same(choices(('par', (('copies', 1, A), ('copies', 0, A), ('repeat', MOST - 2, 1)))), ((0, 0, 0), (2, 0)))

    def test_any_value(self):
        values = STRANGE + INTEGERS + TUPLES + (
            [0, 0], ([0], 0), (0.0, 0), (0, '0'), (False, 0), (0, False), (True, 0), (1, False), (10 ** 70 - 1, 0), (-2, 0),
        )
        for job in (A, C, P, D, HUGE):
            known = choices_by_words(job)
            for value in values + (WIDE,):
                good = value.__class__ is tuple and all(index.__class__ is int for index in value)
                self.assertIs(is_choice(job, value), good and value in known)

    def test_one_part_changed(self):
        for job in random_jobs(204, 40, 6) + [A, C, P]:
            known = choices_by_words(job)
            for choice in known:
                for other in changes_of(choice):
                    good = other.__class__ is tuple and all(index.__class__ is int for index in other) and other in known
                    self.assertIs(is_choice(job, other), good)

    def test_wrong_jobs(self):
        for job in NO_JOBS:
            self.assert_raises_only(InvalidJob, choices, job)
            self.assert_raises_only(InvalidJob, is_choice, job, None)
            self.assert_raises_only(InvalidJob, do_step, job, None)


def in_first_copies(job, address):
    if isinstance(job, int):
        return True
    if job[0] == 'copies' and address[0] != 0:
        return False
    return in_first_copies(job[1][address[0]] if job[0] in ('seq', 'par') else job[2], address[1:])


class RemainderTest(Checks):
    def assert_remainder(self, job, choice):
        expected = tidy_by_words(remainder_by_words(job, choice))
        if not is_job_by_words(expected):
            self.assert_too_many(400, do_step, job, choice)
            return None
        left = do_step(job, choice)
        self.assert_same(left, expected)
        self.assertEqual(step_count(left), step_count(job) - 1)
        self.assertEqual(net(left), net(job) - step_value(job, choice))
        return left

    def test_examples(self):
        self.assert_same(do_step(C, (1, 0)), ('par', (('seq', (5, -3)), ('seq', (-4, 2)))))
        self.assert_same(do_step(('copies', 3, ('repeat', 2, A)), (0, 0, 0)),
                         ('par', (('seq', (-3, 5, -3)), ('copies', 2, ('repeat', 2, ('seq', (5, -3)))))))

    def test_each_row(self):
        self.assert_same(do_step(5, ()), EMPTY)
        self.assert_same(do_step(('seq', (('repeat', 0, 1), 5, 6, 7)), (1,)), ('seq', (6, 7)))
        self.assert_same(do_step(('par', (5, 6, 7)), (1,)), ('par', (5, 7)))
        self.assert_same(do_step(('par', (A, 6, A)), (0, 0)), ('par', (-3, 6, A)))
        self.assert_same(do_step(('repeat', MOST, 4), (0,)), ('repeat', MOST - 1, 4))
        self.assert_same(do_step(('repeat', 1, A), (0, 0)), -3)
        self.assert_same(do_step(('repeat', 2, A), (0, 0)), ('seq', (-3, 5, -3)))
        self.assert_same(do_step(('copies', MOST, 4), (0,)), ('copies', MOST - 1, 4))
        self.assert_same(do_step(('copies', 2, A), (0, 0)), ('par', (-3, A)))
        self.assert_same(do_step(('copies', 3, A), (0, 0)), ('par', (-3, ('copies', 2, A))))
        self.assert_same(do_step(('copies', 1, 4), (0,)), EMPTY)
        self.assert_same(do_step(('par', (('repeat', 0, A), ('par', ()), 4)), (2,)), EMPTY)
        self.assert_same(do_step(HUGE, (0, 0, 0)),
                         ('par', (('repeat', 10 ** 15 - 1, -7), ('copies', 10 ** 15 - 1, ('repeat', 10 ** 15, -7)))))

    def test_small_jobs_one_choice_after_another(self):
        source = random.Random(205)
        for job in random_jobs(206, 300, 9, levels=6, largest=2) + uneven_jobs(207, 40):
            left = job
            for _ in range(steps_in(job)):
                for choice in choices(left):
                    self.assert_remainder(left, choice)
                left = do_step(left, source.choice(choices(left)))
            self.assert_same(tidy(left), EMPTY)

    def test_the_same_steps_in_the_same_order(self):
        for job in random_jobs(208, 200, 7, levels=6, largest=3):
            for choice in choices(job):
                self.assertEqual(form(do_step(job, choice)), form(job, {choice}))

    def test_great_jobs(self):
        source = random.Random(209)
        for job in GREAT_JOBS:
            for turned in (job, mirror(job)):
                left = turned
                for _ in range(6):
                    found = choices(left)
                    if not found:
                        break
                    after = self.assert_remainder(left, source.choice(found))
                    left = left if after is None else after

    def test_too_many_nodes(self):
        rounds = ('repeat', 2, ('seq', tuple(range(1, 198))))
        self.assert_same(do_step(('seq', (rounds, 7, 7)), (0, 0, 0))[1][-3:], (197, 7, 7))
        job = ('repeat', 2, ('seq', tuple(range(1, 399))))
        self.assertTrue(is_job(job))
        self.assert_too_many(400, do_step, job, (0, 0))
        for many, good in ((200, True), (201, False)):
            # Behind the first step: a seq, many - 1 steps and many steps of the second round.
            job = ('repeat', 2, ('seq', tuple(range(many))))
            self.assertTrue(is_job(job))
            if good:
                self.assertEqual(len(do_step(job, (0, 0))[1]), 2 * many - 1)
            else:
                self.assert_too_many(400, do_step, job, (0, 0))

    def test_exactly_400_nodes(self):
        for more, good in ((132, True), (133, False)):
            job = ('seq', (('repeat', 3, ('seq', tuple(range(133)))),) + (7,) * more)
            after = tidy_by_words(remainder_by_words(job, (0, 0, 0)))
            self.assertEqual(nodes_in(after), 400 if good else 401)
            self.assertEqual(self.assert_remainder(job, (0, 0, 0)) is not None, good)

    def test_nested_too_deep(self):
        for kind in ('repeat', 'copies'):
            for n, levels, good in ((2, 12, True), (3, 12, False), (3, 11, True)):
                inner = (1, 2)
                for level in range(levels - 1):
                    inner = (('seq', 'par')[level % 2], inner)
                    inner = (inner, 3)
                job = (kind, n, inner[0])
                self.assertEqual(levels_in(job), levels + 1)
                self.assertTrue(is_job(job))
                for choice in choices(job):
                    self.assertEqual(self.assert_remainder(job, choice) is not None, good)

    def test_forks(self):
        source = random.Random(210)
        for levels in range(1, 6):
            job = forked(levels)
            left = job
            for _ in range(40):
                found = choices(left)
                if not found:
                    break
                after = self.assert_remainder(left, source.choice(found))
                left = left if after is None else after

    def test_wrong_choices(self):
        for job in (A, C, P, 5, EMPTY, HUGE):
            known = choices_by_words(job)
            for value in STRANGE + INTEGERS + TUPLES + ((False, False), (True, False), [0, 0], (0, 0, 0, 0), (1, 1), (0, 1)):
                if value.__class__ is tuple and value in known and not any(index.__class__ is bool for index in value):
                    continue
                self.assert_raises_only(InvalidChoice, do_step, job, value)
            self.assertRaises(InvalidChoice, do_step, job, WIDE)
