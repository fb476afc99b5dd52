"""Promises 10.1 and 10.2: contexts, and the least capacity of a context with a job."""

import random

from roomprofile.errors import InvalidContext, InvalidJob
from roomprofile.exchange.contexts import capacity_in, is_context, plug
from roomprofile.jobs.jobs import is_job
from roomprofile.profiles.profiles import profile
from tests.changes import changes_of
from tests.checks import Checks
from tests.great import GREAT_JOBS, MOST
from tests.reference import profile_of, random_jobs, state_count, uneven_jobs
from tests.reference_contexts import HOLE, is_context_by_words, plugged_by_words, random_context
from tests.reference_progress import levels_in
from tests.values import A, B, C, D, EMPTY_HUGE, HUGE, INTEGERS, NO_JOBS, P, STRANGE, TUPLES, WIDE, nested

BESIDE = ('par', (HOLE, ('seq', (4, -4))))
WORDS = ('seq', 'hole')

NO_CONTEXTS = tuple(value for value in NO_JOBS if value != HOLE) + (
    5, 0, A, C, D, P, HUGE, EMPTY_HUGE, ('seq', ()), 'hole', ['hole'], ('Hole',), ('hole', ()), ('hole', 'hole'), ('hole', 5),
    (('hole',),), ('hol',), ('hole ',), ('seq', ('hole',)), ('seq', (['hole'],)), ('seq', (HOLE, HOLE)), ('par', (HOLE, 5, HOLE)),
    ('seq', (HOLE, ('par', (A, HOLE)))), ('repeat', 2, HOLE), ('repeat', 1, HOLE), ('repeat', 0, HOLE), ('copies', 2, HOLE),
    ('copies', 1, HOLE), ('copies', 0, HOLE), ('seq', (HOLE, ('repeat', 0, HOLE))), ('seq', (HOLE, ('copies', 1, HOLE))),
    ('seq', (('repeat', 1, ('seq', (HOLE,))), 4)), ('par', (('copies', 0, ('par', (4, HOLE))), HOLE)),
    ('seq', (HOLE, 10 ** 61)), ('seq', (HOLE, -10 ** 61)), ('seq', (HOLE, True)), ('seq', [HOLE]), ['seq', (HOLE,)],
    ('par', (HOLE, ('repeat', 1, 10 ** 61))), ('par', (HOLE, ('repeat', 10 ** 30 + 1, 1))), ('par', (HOLE, ('repeat', -1, 1))),
    nested('seq', 13, HOLE), nested('par', 12, ('seq', (HOLE,))), ('seq', (HOLE,) + (1,) * 399), ('par', (HOLE,) + (('seq', ()),) * 399),
    ('seq', (HOLE, nested('seq', 12, 5))), ('par', (HOLE, ('repeat', 10 ** 30, 1), 1)), ('seq', (HOLE, ('repeat', 10 ** 30, ('seq', (1, 1))))),
    ('seq', (HOLE, ('repeat', 0, ('repeat', 10 ** 30, ('seq', (1, 1)))))),
)

CONTEXTS = (
    HOLE, BESIDE, ('seq', (HOLE,)), ('par', (HOLE,)), ('seq', (HOLE, 10 ** 61 - 1)), ('seq', (1 - 10 ** 61, HOLE)),
    ('par', (HOLE, ('repeat', 0, A), ('copies', 10 ** 30, ('seq', ())))), nested('seq', 12, HOLE), ('seq', (HOLE,) + (1,) * 398),
    ('seq', (HOLE, nested('seq', 11, 5))), ('par', (HOLE, ('repeat', 10 ** 30, 1))), ('par', (HOLE, ('copies', 10 ** 30 - 1, 1), 1)),
    ('seq', (('par', (4, ('seq', (HOLE, -4)))), ('repeat', 7, -2))),
)


class ContextsTest(Checks):
    def test_examples(self):
        self.assert_same([is_context(BESIDE), is_context(('par', (HOLE, 4))), is_context(('repeat', 2, HOLE)), is_context(4)],
                         [True, True, False, False])
        self.assert_same(plug(('seq', (HOLE, 4)), A), ('seq', (('seq', (5, -3)), 4)))
        self.assert_same([capacity_in(BESIDE, A), capacity_in(BESIDE, B)], [5, 3])

    def test_contexts(self):
        for index, context in enumerate(CONTEXTS):
            with self.subTest(index=index):
                self.assertIs(is_context(context), True)

    def test_any_value(self):
        for index, value in enumerate(NO_CONTEXTS + STRANGE + INTEGERS + TUPLES + (WIDE,)):
            with self.subTest(index=index):
                self.assertIs(is_context(value), False)

    def test_drawn_contexts(self):
        source = random.Random(231)
        for _ in range(300):
            context = random_context(source, 6)
            self.assertIs(is_context(context), True)

    def test_one_part_changed(self):
        source = random.Random(232)
        found = {True: 0, False: 0}
        for context in [random_context(source) for _ in range(60)] + [BESIDE, HOLE, ('seq', (('repeat', 2, 5), HOLE))]:
            for value in changes_of(context, words=WORDS):
                expected = is_context_by_words(value)
                self.assertIs(is_context(value), expected, value)
                found[expected] += 1
        self.assertGreater(min(found.values()), 500)


class PlugTest(Checks):
    def test_drawn_contexts(self):
        source = random.Random(233)
        for job in random_jobs(234, 200, 6):
            context = random_context(source)
            self.assert_same(plug(context, job), plugged_by_words(context, job))

    def test_it_is_not_made_tidy(self):
        job = ('seq', (('par', ()), ('repeat', 1, 5)))
        self.assert_same(plug(HOLE, job), job)
        self.assert_same(plug(('seq', (('seq', (HOLE,)), ('copies', 0, 4))), job), ('seq', (('seq', (job,)), ('copies', 0, 4))))

    def test_limits_of_what_is_plugged(self):
        for context, job, good in (
            (nested('seq', 6, HOLE), nested('par', 6, 5), True), (nested('seq', 6, HOLE), nested('par', 7, 5), False),
            (nested('seq', 12, HOLE), 5, True), (nested('seq', 12, HOLE), ('seq', ()), True),
            (nested('seq', 12, HOLE), ('seq', (5,)), False),
            (('seq', (HOLE,) + (1,) * 199), ('par', (1,) * 199), True), (('seq', (HOLE,) + (1,) * 199), ('par', (1,) * 200), False),
            (('seq', (HOLE, ('repeat', 10 ** 30 - 4, 1))), ('copies', 4, 1), True),
            (('seq', (HOLE, ('repeat', 10 ** 30 - 4, 1))), ('copies', 5, 1), False),
            (('seq', (HOLE, MOST)), 5, True), (('seq', (HOLE, -MOST)), 5, True), (('seq', (HOLE, MOST + 1)), 5, False),
            (('seq', (HOLE, -MOST - 1)), 5, False), (('par', (HOLE, ('repeat', 0, 10 ** 61 - 1))), 5, False),
        ):
            self.assertTrue(is_context(context) and is_job(job))
            if good:
                self.assert_same(plug(context, job), plugged_by_words(context, job))
            else:
                self.assert_raises_only(InvalidJob, plug, context, job)
            self.assertIsInstance(capacity_in(context, job), int)

    def test_wrong_inputs(self):
        for function in (plug, capacity_in):
            for value in NO_CONTEXTS:
                self.assert_raises_only(InvalidContext, function, value, A)
                self.assert_raises_only(InvalidContext, function, value, None)
            for value in NO_JOBS + (HOLE, BESIDE, ('seq', (HOLE, 4))):
                self.assert_raises_only(InvalidJob, function, HOLE, value)
                self.assert_raises_only(InvalidJob, function, ('seq', (HOLE, 4)), value)
            self.assertRaises(InvalidContext, function, WIDE, WIDE)
            self.assertRaises(InvalidJob, function, BESIDE, WIDE)


class CapacityTest(Checks):
    def test_small_contexts_state_by_state(self):
        source = random.Random(235)
        checked = 0
        for job in random_jobs(236, 400, 5) + uneven_jobs(237, 150, 60):
            context = random_context(source)
            whole = plugged_by_words(context, job)
            if state_count(whole) <= 1500:
                checked += 1
                self.assert_same(capacity_in(context, job), profile_of(whole)[1])
        self.assertGreater(checked, 400)

    def test_it_is_determined_by_the_profile(self):
        source = random.Random(238)
        for job in uneven_jobs(239, 60):
            other = ('seq', (('par', ()), job, ('repeat', 0, 9)))
            for _ in range(4):
                context = random_context(source, 6)
                self.assertEqual(capacity_in(context, other), capacity_in(context, job))

    def test_great_jobs(self):
        source = random.Random(240)
        for job in GREAT_JOBS:
            self.assertEqual(capacity_in(HOLE, job), profile(job)[1])
            total, peak, _, _ = profile(job)
            self.assertEqual(capacity_in(('seq', (7, HOLE)), job), max(7, 7 + peak))
            self.assertEqual(capacity_in(('seq', (HOLE, 10 ** 60)), job), max(peak, total + 10 ** 60))
            self.assertEqual(capacity_in(('par', (HOLE, 1 - 10 ** 61)), job), max(0, total + 1 - 10 ** 61, peak + 1 - 10 ** 61))
            context = random_context(source, 6)
            whole = plugged_by_words(context, job)
            if is_job(whole):
                self.assertEqual(capacity_in(context, job), profile(whole)[1])

    def test_beyond_the_limits_of_a_job(self):
        deep = nested('seq', 10, ('par', (HOLE, ('seq', (4, -4)))))
        for job in (A, B, C, nested('par', 9, B), nested('seq', 11, A), ('repeat', 10 ** 29, A), EMPTY_HUGE):
            self.assertEqual(capacity_in(deep, job), capacity_in(BESIDE, job))
            self.assertIs(is_job(plugged_by_words(deep, job)), levels_in(job) <= 2)
        many = ('par', (HOLE, ('repeat', 10 ** 30, ('seq', (-1,)))))
        self.assertEqual(capacity_in(many, ('repeat', 10 ** 30, 1)), 0)
        self.assertEqual(capacity_in(('seq', (HOLE, 10 ** 61 - 1)), ('copies', MOST, MOST)), 10 ** 61 - 1 + 10 ** 60)
        self.assertEqual(capacity_in(('par', (HOLE, ('copies', MOST, 10 ** 61 - 1))), 1), (10 ** 61 - 1) * MOST + 1)
        wide = ('par', (HOLE,) + tuple(range(-199, 199)))
        self.assertEqual(capacity_in(wide, ('par', tuple(range(399)))), sum(range(399)) - 199)
