"""Promises 4.2 and 4.3: joint lows and joint valleys."""

import random
import unittest

from roomprofile.errors import InvalidValleys
from roomprofile.valleys.valleys import is_start_valleys, joint_lows, joint_valleys, valley_at
from tests.checks import Checks
from tests.reference import joint_lows_by_words, profile_of, random_job, random_valleys
from tests.values import NO_NUMBERS
from tests.wrong_valleys import HUGE_NUMBER, NO_START_VALLEYS, stairs

PAIR = (((0, 0), (2, -3)), ((0, 0), (4, -5)))
THREE = (((0, 0), (6, -1)), ((0, 0), (6, -1), (9, -2)), ((0, -1), (9, -4)))


class JointLowsTest(Checks):
    def test_example(self):
        self.assert_same([joint_lows(PAIR, 1), joint_lows(PAIR, 2)], [(0, 0), (-3, -5)])

    def test_edges(self):
        self.assert_same(joint_lows((), 0), ())
        self.assert_same(joint_lows((), 10 ** 61 - 1), ())
        self.assert_same(joint_lows((((0, -2), (5, -3)),), 4), (-2,))
        self.assert_same(joint_lows((((0, -2), (5, -3)),), 5), (-3,))
        self.assert_same(joint_lows((((0, -2), (5, -3)),), 10 ** 61 - 1), (-3,))
        self.assert_same(joint_lows(THREE, 4), (0, 0, -1))
        self.assert_same(joint_lows(THREE, 5), (-1, -1, -1))
        self.assert_same(joint_lows(THREE, 6), (-1, -1, -1))
        self.assert_same(joint_lows(THREE, 7), (-1, -2, -4))

    def test_integers_of_any_size(self):
        parts = (((0, -HUGE_NUMBER),), ((0, 0), (HUGE_NUMBER, -1), (HUGE_NUMBER + 2, -2)))
        self.assert_same(joint_lows(parts, 0), (-HUGE_NUMBER, -1))
        self.assert_same(joint_lows(parts, 1), (-HUGE_NUMBER, -1))
        self.assert_same(joint_lows(parts, 2), (-HUGE_NUMBER, -2))
        self.assert_same(joint_lows(parts[1:], 10 ** 61 - 1), (0,))

    def test_in_any_order_of_the_replacements(self):
        source = random.Random(71)
        for _ in range(300):
            parts = tuple(random_valleys(source, 0, 0) for _ in range(source.randint(0, 4)))
            for capacity in range(0, 14):
                result = joint_lows(parts, capacity)
                for pick in (min, max, source.choice):
                    self.assert_same(result, joint_lows_by_words(parts, capacity, pick))

    def test_wrong_parts_come_first(self):
        for index, value in enumerate(NO_START_VALLEYS):
            with self.subTest(index=index):
                self.assert_raises_only(InvalidValleys, joint_lows, (value,), 0)
                self.assert_raises_only(InvalidValleys, joint_lows, (((0, 0),), value), True)
                self.assert_raises_only(InvalidValleys, joint_lows, [value], -1)
        for value in (None, 0, [], [((0, 0),)], {}, 'ab', ((0, 0),), (((0, 0),), None)):
            self.assert_raises_only(InvalidValleys, joint_lows, value, 0)
            self.assert_raises_only(InvalidValleys, joint_lows, value, None)

    def test_wrong_capacities(self):
        for index, value in enumerate(NO_NUMBERS + (-1, -10 ** 61 + 1)):
            with self.subTest(index=index):
                self.assert_invalid_number(value, joint_lows, PAIR, value)
                self.assert_invalid_number(value, joint_lows, (), value)

    def test_many_parts(self):
        parts = (((0, 0), (1, -1)),) * 400
        self.assert_same(joint_lows(parts, 0), (0,) * 400)
        self.assert_same(joint_lows(parts, 1), (-1,) * 400)
        self.assert_raises_only(InvalidValleys, joint_lows, parts + parts[:1], 1)
        self.assert_raises_only(InvalidValleys, joint_lows, parts + parts[:1], -1)

    def test_many_long_parts(self):
        # The parts go down in turn: with each pair that one of them reaches, another one can go on.
        parts = tuple(stairs(400, 2, 0, 0) for _ in range(400))
        self.assert_same(joint_lows(parts, 2), (-399,) * 400)
        self.assert_same(joint_lows(parts, 1), (0,) * 400)


class JointValleysTest(Checks):
    def test_example(self):
        self.assert_same(joint_valleys(THREE), ((0, -1), (5, -3), (7, -7)))
        self.assert_same(joint_valleys(()), ((0, 0),))

    def test_one_part(self):
        for part in (((0, 0),), ((0, -2), (5, -3)), stairs(400), ((0, -HUGE_NUMBER), (HUGE_NUMBER, -HUGE_NUMBER - 1))):
            self.assert_same(joint_valleys((part,)), part)

    def test_the_sums_of_the_joint_lows(self):
        source = random.Random(72)
        for _ in range(300):
            parts = tuple(random_valleys(source, 0, 0) for _ in range(source.randint(0, 4)))
            result = joint_valleys(parts)
            self.assertIs(is_start_valleys(result), True)
            for capacity in range(0, result[-1][0] + 3):
                self.assert_same(valley_at(result, capacity), sum(joint_lows(parts, capacity)))
            self.assertEqual(result[-1][1], sum(part[-1][1] for part in parts))

    def test_jobs_side_by_side(self):
        source = random.Random(73)
        for _ in range(150):
            jobs = tuple(random_job(source, source.randint(0, 4)) for _ in range(source.randint(0, 3)))
            parts = tuple(profile_of(job)[2] for job in jobs)
            self.assert_same(joint_valleys(parts), profile_of(('par', jobs))[2])

    def test_integers_of_any_size(self):
        parts = (((0, 0), (HUGE_NUMBER, -1)), ((0, -HUGE_NUMBER), (5 * HUGE_NUMBER, -3 * HUGE_NUMBER)))
        self.assert_same(joint_valleys(parts), ((0, -HUGE_NUMBER - 1), (5 * HUGE_NUMBER - 1, -3 * HUGE_NUMBER - 1)))

    def test_wrong_parts(self):
        for index, value in enumerate(NO_START_VALLEYS):
            with self.subTest(index=index):
                self.assert_raises_only(InvalidValleys, joint_valleys, (value,))
                self.assert_raises_only(InvalidValleys, joint_valleys, (((0, 0),), value))
                self.assert_raises_only(InvalidValleys, joint_valleys, [value])
        for value in (None, 0, [], [((0, 0),)], {}, 'ab', ((0, 0),), (((0, 0),), None)):
            self.assert_raises_only(InvalidValleys, joint_valleys, value)
        self.assert_same(joint_valleys((((0, 0),),) * 400), ((0, 0),))
        self.assert_raises_only(InvalidValleys, joint_valleys, (((0, 0),),) * 401)

    def test_long_results(self):
        for advances in (398, 399):
            parts = self.parts_in_turn(advances)
            self.assert_same(joint_valleys(parts), ((0, 0),) + tuple((at + 3, -at) for at in range(1, advances + 1)))
        self.assert_too_many(400, joint_valleys, self.parts_in_turn(400))
        self.assert_too_many(400, joint_valleys, self.parts_in_turn(700))

    def parts_in_turn(self, advances):
        """Two parts that go down by one in turn, so many times in all, each time at a capacity of its own."""
        climbs = range(4, 4 + 2 * advances, 2)
        return tuple(((0, 0),) + tuple((climb - at, -at - 1) for at, climb in enumerate(climbs[first::2]))
                     for first in (0, 1))

    def test_parts_that_are_longer_than_the_result(self):
        parts = self.parts_in_turn(700)
        self.assert_same(joint_valleys(parts + (((0, -10 ** 6),),)), ((0, -10 ** 6 - 700),))
        self.assert_same(joint_valleys(parts + (((0, 0), (4, -10 ** 6)),)), ((0, 0), (4, -10 ** 6 - 700)))


if __name__ == '__main__':
    unittest.main()
