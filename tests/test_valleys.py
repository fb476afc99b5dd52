"""Promise 4.1: valleys, and what is made of them one by one."""

import random
import unittest

from roomprofile.errors import InvalidValleys
from roomprofile.valleys.valleys import (
    MAX_VALLEYS, from_capacity, is_start_valleys, is_valleys, least_of_two, shifted, valley_at,
)
from tests.checks import Checks
from tests.reference import random_valleys, staircase, value_at
from tests.values import NO_NUMBERS, NUMBER_EDGES
from tests.wrong_valleys import HUGE_NUMBER, NO_VALLEYS, OTHER_VALLEYS, START_VALLEYS, stairs

SOME = START_VALLEYS + OTHER_VALLEYS


class IsValleysTest(Checks):
    def test_constant(self):
        self.assertEqual(MAX_VALLEYS, 400)

    def test_examples(self):
        values = [is_valleys(((-3, 1), (4, -1))), is_valleys(()), is_valleys(((0, 0), (3, 0))), is_valleys([(0, 0)])]
        self.assertEqual(values, [True, False, False, False])
        self.assertEqual([is_start_valleys(((-3, 1), (4, -1))), is_start_valleys(((0, -2), (5, -3)))], [False, True])

    def test_valleys(self):
        self.assert_yes([is_valleys(value) for value in SOME])
        self.assert_yes([is_valleys(stairs(400)), is_valleys(stairs(399)), is_valleys(stairs(1))])

    def test_other_values(self):
        self.assert_no([is_valleys(value) for value in NO_VALLEYS])

    def test_start_valleys(self):
        self.assert_yes([is_start_valleys(value) for value in START_VALLEYS])
        self.assert_no([is_start_valleys(value) for value in OTHER_VALLEYS + NO_VALLEYS])

    def test_wrong_valleys_raise_everywhere(self):
        for index, value in enumerate(NO_VALLEYS):
            with self.subTest(index=index):
                self.assert_raises_only(InvalidValleys, valley_at, value, 0)
                self.assert_raises_only(InvalidValleys, valley_at, value, None)
                self.assert_raises_only(InvalidValleys, shifted, value)
                self.assert_raises_only(InvalidValleys, shifted, value, capacity=True, usage=None)
                self.assert_raises_only(InvalidValleys, from_capacity, value, 0)
                self.assert_raises_only(InvalidValleys, from_capacity, value, [])
                self.assert_raises_only(InvalidValleys, least_of_two, value, ((0, 0),))
                self.assert_raises_only(InvalidValleys, least_of_two, ((0, 0),), value)
                self.assert_raises_only(InvalidValleys, least_of_two, value, None)

    def test_wrong_numbers(self):
        for index, value in enumerate(NO_NUMBERS):
            with self.subTest(index=index):
                self.assert_invalid_number(value, valley_at, ((0, 0),), value)
                self.assert_invalid_number(value, from_capacity, ((-HUGE_NUMBER, 0),), value)
                self.assert_invalid_number(value, shifted, ((0, 0),), capacity=value)
                self.assert_invalid_number(value, shifted, ((0, 0),), usage=value)
                self.assert_invalid_number(value, shifted, ((0, 0),), usage=None, capacity=value)


class ValueTest(Checks):
    def test_example(self):
        rows = ((3, 1), (4, -1))
        self.assertEqual([valley_at(rows, 2), valley_at(rows, 3), valley_at(rows, 9)], [None, 1, -1])

    def test_edges(self):
        rows = ((-2, 7), (0, 5), (3, -1))
        self.assertEqual([valley_at(rows, at) for at in (-3, -2, -1, 0, 1, 2, 3, 4, 10 ** 61 - 1)],
                         [None, 7, 7, 5, 5, 5, -1, -1, -1])
        self.assertIsNone(valley_at(rows, -10 ** 61 + 1))
        self.assertEqual([valley_at(((0, 0),), at) for at in NUMBER_EDGES], [0, None, 0, None])

    def test_integers_of_any_size(self):
        self.assertIsNone(valley_at(((HUGE_NUMBER, 0),), 10 ** 61 - 1))
        self.assertEqual(valley_at(((-HUGE_NUMBER, 0), (HUGE_NUMBER, -1)), -10 ** 61 + 1), 0)
        self.assertEqual(valley_at(((0, -HUGE_NUMBER),), 0), -HUGE_NUMBER)
        self.assertEqual(valley_at(stairs(400), 398), -398)


class ShiftedTest(Checks):
    def test_example(self):
        self.assert_same(shifted(((0, 0), (3, -1)), usage=-4, capacity=2), ((2, -4), (5, -5)))

    def test_edges(self):
        rows = ((-1, 2), (3, -1))
        self.assert_same(shifted(rows), rows)
        self.assert_same(shifted(rows, capacity=-5), ((-6, 2), (-2, -1)))
        self.assert_same(shifted(rows, usage=-5), ((-1, -3), (3, -6)))
        for number in NUMBER_EDGES:
            self.assert_same(shifted(rows, capacity=number, usage=-number), ((number - 1, 2 - number), (number + 3, -1 - number)))
        self.assert_same(shifted(((-HUGE_NUMBER, HUGE_NUMBER),), capacity=1, usage=2), ((1 - HUGE_NUMBER, HUGE_NUMBER + 2),))

    def test_keywords(self):
        with self.assertRaises(TypeError):
            shifted(((0, 0),), 1)


class FromCapacityTest(Checks):
    def test_example(self):
        self.assert_same(from_capacity(((0, 0), (3, -1), (7, -2)), 4), ((4, -1), (7, -2)))

    def test_edges(self):
        rows = ((0, 0), (3, -1), (7, -2))
        expected = {0: rows, 1: ((1, 0), (3, -1), (7, -2)), 2: ((2, 0), (3, -1), (7, -2)), 3: ((3, -1), (7, -2)),
                    6: ((6, -1), (7, -2)), 7: ((7, -2),), 8: ((8, -2),), 10 ** 61 - 1: ((10 ** 61 - 1, -2),)}
        for capacity, result in expected.items():
            self.assert_same(from_capacity(rows, capacity), result)
        self.assert_same(from_capacity(((-7, 2), (-3, 1)), -5), ((-5, 2), (-3, 1)))

    def test_capacities_below_the_first_one(self):
        self.assert_invalid_number(-1, from_capacity, ((0, 0), (3, -1)), -1)
        self.assert_invalid_number(-8, from_capacity, ((-7, 2), (-3, 1)), -8)
        self.assert_invalid_number(10 ** 61 - 1, from_capacity, ((10 ** 61, 0),), 10 ** 61 - 1)
        self.assert_same(from_capacity(((-7, 2), (-3, 1)), -7), ((-7, 2), (-3, 1)))


class LeastOfTwoTest(Checks):
    def test_example(self):
        self.assert_same(least_of_two(((0, 0), (4, -3)), ((2, -1), (4, -2), (6, -5))),
                         ((0, 0), (2, -1), (4, -3), (6, -5)))

    def test_edges(self):
        rows = ((0, 0), (4, -3))
        self.assert_same(least_of_two(rows, rows), rows)
        self.assert_same(least_of_two(rows, ((0, -3),)), ((0, -3),))
        self.assert_same(least_of_two(((0, -3),), rows), ((0, -3),))
        self.assert_same(least_of_two(rows, ((-5, 7), (-1, -2))), ((-5, 7), (-1, -2), (4, -3)))
        self.assert_same(least_of_two(rows, ((9, 5), (10, -3), (11, -4))), ((0, 0), (4, -3), (11, -4)))
        self.assert_same(least_of_two(((HUGE_NUMBER, 0),), ((-HUGE_NUMBER, 1),)), ((-HUGE_NUMBER, 1), (HUGE_NUMBER, 0)))

    def test_every_capacity(self):
        source = random.Random(61)
        for _ in range(500):
            first = random_valleys(source, source.randint(-5, 5), source.randint(-5, 5))
            second = random_valleys(source, source.randint(-5, 5), source.randint(-5, 5))
            result = least_of_two(first, second)
            self.assertIs(is_valleys(result), True)
            self.assert_same(result, staircase(first + second, min(first[0][0], second[0][0])))
            for capacity in range(-8, 40):
                values = [value_at(rows, capacity) for rows in (first, second)]
                least = min([value for value in values if value is not None], default=None)
                self.assertEqual(valley_at(result, capacity), least)

    def test_long_results(self):
        rows = stairs(400)
        self.assert_same(least_of_two(rows, rows), rows)
        self.assert_same(least_of_two(rows[:200], rows[200:]), rows)
        self.assert_same(least_of_two(rows[1::2], rows[::2]), rows)
        self.assert_too_many(400, least_of_two, rows, ((400, -400),))
        self.assert_too_many(400, least_of_two, ((-1, 1),), rows)
        self.assert_same(least_of_two(((-1, 0),), rows), ((-1, 0),) + rows[1:])
        more = stairs(401)
        self.assert_too_many(400, least_of_two, more[::2], more[1::2])
        self.assert_same(least_of_two(more[:-1], ((-5, -1000),)), ((-5, -1000),))


if __name__ == '__main__':
    unittest.main()
