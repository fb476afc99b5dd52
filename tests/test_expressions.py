"""Promises 14.1 and 14.2: expressions, their values, sizes and jobs."""

import random

from roomprofile.errors import InvalidExpression
from roomprofile.expressions.expressions import MAX_SIZE, MODULUS, is_expression, job_of, size_of, value_of
from roomprofile.expressions.machine import Machine, evaluate_within, evaluation_order
from roomprofile.jobs.jobs import is_job, net
from tests.changes import changes_of
from tests.checks import Checks
from tests.reference_expressions import is_expression_by_words, job_by_words, random_expression, value_by_words
from tests.reference_progress import levels_in, nodes_in
from tests.values import A, INTEGERS, NO_JOBS, STRANGE, TUPLES, deep_tuple

ONE = ('load', 3, 5)
TWO = ('load', 7, 4)
SUM = ('apply', 'add', (ONE, TWO), 2)
WORDS = ('load', 'apply', 'each', 'fold', 'add', 'mul', 'min', 'max')


def applied(levels, core):
    """The core within so many operations, each of which has two levels of a job."""
    for _ in range(levels):
        core = ('apply', 'min', (core,), 0)
    return core


def folded(levels, core, n=2):
    for _ in range(levels):
        core = ('fold', 'add', n, core, 1)
    return core


def wide_expression():
    """A value that would have 400 ** 12 parts if all of it were read."""
    value = ONE
    for _ in range(12):
        value = ('apply', 'add', (value,) * 400, 1)
    return value


WIDE_EXPRESSION = wide_expression()

NO_EXPRESSIONS = STRANGE + INTEGERS + TUPLES + NO_JOBS + (
    A, 'load', ('load',), ('load', 3), ('load', 3, 5, 5), ['load', 3, 5], ('Load', 3, 5), ('load', 997, 5), ('load', -1, 5),
    ('load', 3, -1), ('load', 3, 10 ** 12 + 1), ('load', True, 5), ('load', 3, False), ('load', None, 5), ('load', '3', 5),
    ('load', 3, None), ('load', (3,), 5), ('apply', 'add', (), 2), ('apply', 'add', [ONE], 2), ('apply', 'add', ONE, 2),
    ('apply', 'add', (ONE,), -1), ('apply', 'add', (ONE,), 10 ** 12 + 1), ('apply', 'add', (ONE,), True), ('apply', 'sub', (ONE,), 2),
    ('apply', 'Add', (ONE,), 2), ('apply', ['add'], (ONE,), 2), ('apply', None, (ONE,), 2), ('apply', (ONE,), 2), ('apply', 'add', (ONE,)),
    ('apply', 'add', (ONE,), 2, 2), ('apply', 'add', (ONE, None), 2), ('apply', 'add', (5,), 2), ('apply', {}, (ONE,), 2),
    ('each', 'add', 0, ONE, 2), ('each', 'add', -1, ONE, 2), ('each', 'add', True, ONE, 2), ('each', 'add', 2, ONE, True),
    ('each', 'add', 10 ** 30 + 1, ('load', 3, 0), 2), ('each', 'add', 2, (ONE,), 2), ('each', 'add', 2, 5, 2), ('each', 'sub', 2, ONE, 2),
    ('each', 'add', 2, ONE, 10 ** 12 + 1), ('each', 'add', 2, ONE, -1), ('each', 'add', ONE, 2), ('each', 'add', 2, ONE), ('each', 2, ONE, 2),
    ('fold', 'add', 0, ONE, 2), ('fold', 'add', True, ONE, 2), ('fold', 'add', 10 ** 30 + 1, ONE, 2), ('fold', 'add', 2, ONE, -1),
    ('fold', 'add', 2, ONE, 10 ** 12 + 1), ('fold', 'add', 2, None, 1), ('fold', ['add'], 2, ONE, 1), ('fold', 'add', '2', ONE, 1),
    ['fold', 'add', 2, ONE, 1], ('fold', 'add', 2, ONE, 1, 1), ('fold', 'add', (2,), ONE, 1), ('apply', 'add', (ONE,) * 397, 2),
    # The job would have a step below -(10 ** 30), or too many steps.
    ('each', 'add', 10 ** 18 + 1, ('load', 3, 10 ** 12), 2), ('each', 'add', 10 ** 30 - 1, ('load', 3, 2), 2),
    ('each', 'add', 10 ** 30 - 1, ('load', 3, 0), 2), ('fold', 'add', 5 * 10 ** 29, ONE, 2),
    applied(7, ONE), folded(5, ONE), ('each', 'add', 1, applied(6, ONE), 1), applied(1, folded(4, ONE)), wide_expression(),
    ('apply', 'add', (SUM, ['load', 3, 5]), 2), ('fold', 'add', 2, ('load', 3, 5.0), 1), deep_tuple(200),
)

EXPRESSIONS = (
    ONE, SUM, ('load', 0, 0), ('load', 996, 10 ** 12), ('apply', 'mul', (ONE,), 0), ('apply', 'min', (ONE,) * 396, 10 ** 12),
    ('each', 'max', 1, ONE, 0), ('each', 'add', 10 ** 18, ('load', 3, 10 ** 12), 2), ('each', 'add', 10 ** 30 - 2, ('load', 3, 0), 2),
    ('fold', 'mul', 1, ONE, 0), ('fold', 'mul', 5 * 10 ** 29 - 1, ONE, 10 ** 12), applied(6, ONE), folded(4, ONE),
    ('each', 'add', 1, applied(5, ONE), 1), applied(3, folded(2, ONE)), ('fold', 'add', 10 ** 14, ('each', 'mul', 10 ** 14, SUM, 3), 1),
)


class FormsTest(Checks):
    def test_examples(self):
        self.assert_same([is_expression(('load', 3, 5)), is_expression(('load', 997, 5)), is_expression(('fold', 'add', 0, ('load', 3, 5), 1))],
                         [True, False, False])
        one = ('apply', 'add', (('load', 3, 5), ('apply', 'mul', (('load', 2, 4), ('load', 7, 4)), 1)), 2)
        self.assert_same((value_of(one), job_of(one)), (17, ('seq', (('par', (5, ('seq', (('par', (4, 4)), 1, -8)))), 2, -6))))
        self.assert_same(size_of(one), 2)
        self.assert_same(value_of(('fold', 'add', 10 ** 6, ('load', 5, 3), 1)), 45)
        self.assertEqual((MODULUS, MAX_SIZE), (997, 10 ** 12))

    def test_expressions(self):
        for index, expression in enumerate(EXPRESSIONS):
            with self.subTest(index=index):
                self.assertIs(is_expression(expression), True)
                self.assertTrue(is_expression_by_words(expression))

    def test_any_value(self):
        for index, value in enumerate(NO_EXPRESSIONS):
            with self.subTest(index=index):
                self.assertIs(is_expression(value), False)

    def test_wrong_inputs(self):
        for value in NO_EXPRESSIONS:
            for function in (value_of, size_of, job_of, evaluation_order):
                self.assertRaises(InvalidExpression, function, value)
            self.assertRaises(InvalidExpression, evaluate_within, value, None)
            with self.assertRaises(InvalidExpression):
                Machine(value, capacity=None)
        for value in STRANGE:
            for function in (value_of, size_of, job_of, evaluation_order):
                self.assert_raises_only(InvalidExpression, function, value)

    def test_one_part_changed(self):
        source = random.Random(271)
        found = {True: 0, False: 0}
        for expression in [random_expression(source, 2) for _ in range(60)] + [SUM, folded(2, ONE)]:
            for value in changes_of(expression, words=WORDS):
                expected = is_expression_by_words(value)
                self.assertIs(is_expression(value), expected, value)
                found[expected] += 1
        self.assertGreater(min(found.values()), 500)

    def test_exactly_400_nodes(self):
        for parts, good in ((396, True), (397, False)):
            value = ('apply', 'add', (ONE,) * parts, 1)
            self.assertEqual(nodes_in(job_by_words(value)), parts + 4)
            self.assertIs(is_expression(value), good)
        for core, parts, good in ((('each', 'add', 2, ONE, 1), 390, True), (('each', 'add', 2, ONE, 1), 392, False),
                                  (('fold', 'add', 2, ONE, 1), 390, True), (('fold', 'add', 2, ONE, 1), 391, False)):
            value = ('apply', 'add', (core,) + (ONE,) * parts, 1)
            self.assertIs(nodes_in(job_by_words(value)) <= 400, good)
            self.assertIs(is_expression(value), good)

    def test_exactly_13_levels(self):
        for value, levels in ((applied(6, ONE), 13), (applied(7, ONE), 15), (folded(4, ONE), 13), (applied(1, folded(4, ONE)), 15),
                              (('each', 'add', 1, applied(5, ONE), 1), 13), (('each', 'add', 1, folded(4, ONE), 1), 15),
                              (('fold', 'add', 1, applied(5, ONE), 1), 14), (('fold', 'add', 1, applied(4, ONE), 1), 12)):
            self.assertEqual(levels_in(job_by_words(value)), levels)
            self.assertIs(is_expression(value), levels <= 13)


class ValuesTest(Checks):
    def test_drawn_expressions(self):
        source = random.Random(272)
        for _ in range(600):
            expression = random_expression(source, 3, 4, 10 ** 12)
            if is_expression_by_words(expression):
                self.assert_same((value_of(expression), size_of(expression), job_of(expression)),
                                 (value_by_words(expression), expression[-1], job_by_words(expression)))
                self.assertTrue(is_job(job_of(expression)))
                self.assertEqual(net(job_of(expression)), size_of(expression))

    def test_operations(self):
        for operation, expected in (('add', (996 + 5 + 7) % 997), ('mul', 996 * 5 * 7 % 997), ('min', 5), ('max', 996)):
            parts = tuple(('load', value, 1) for value in (996, 5, 7))
            self.assert_same(value_of(('apply', operation, parts, 1)), expected)
        for operation in ('add', 'mul', 'min', 'max'):
            for value in (0, 1, 500, 996):
                part = ('load', value, 1)
                self.assert_same(value_of(('apply', operation, (part,), 1)), value)
                for kind in ('each', 'fold'):
                    self.assert_same(value_of((kind, operation, 1, part, 1)), value)

    def test_great_counts(self):
        source = random.Random(273)
        for _ in range(300):
            n = source.choice([2, 3, 996, 997, 998, source.randint(1, 10 ** 12), source.randint(1, 10 ** 28)])
            value = source.randint(0, 996)
            part = ('load', value, 0)
            for operation, expected in (('add', n * value % 997), ('mul', pow(value, n, 997)), ('min', value), ('max', value)):
                for kind in ('each', 'fold'):
                    self.assert_same(value_of((kind, operation, n, part, 1)), expected)
        most = 10 ** 30 - 2
        self.assert_same(value_of(('each', 'mul', most, ('load', 5, 0), 1)), pow(5, most, 997))
        inner = ('each', 'mul', 10 ** 14, ('load', 5, 1), 3)
        self.assert_same(value_of(('fold', 'add', 10 ** 14, inner, 1)), 10 ** 14 * pow(5, 10 ** 14, 997) % 997)

    def test_expressions_within_limits(self):
        for expression in EXPRESSIONS:
            self.assert_same(value_of(expression), value_by_words(expression))
            self.assert_same(job_of(expression), job_by_words(expression))
            self.assert_same(size_of(expression), expression[-1])
