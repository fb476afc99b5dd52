"""What many tests assert."""

import unittest

from roomprofile import errors


class Checks(unittest.TestCase):
    def assert_raises_only(self, error, function, *arguments, **more):
        """The call raises an error of exactly this class, which is returned, and leaves its arguments alone."""
        before = repr_kinds((arguments, more))
        with self.assertRaises(error) as caught:
            function(*arguments, **more)
        self.assertIs(caught.exception.__class__, error)
        self.assertEqual(repr_kinds((arguments, more)), before)
        return caught.exception

    def assert_invalid_number(self, value, function, *arguments, **more):
        error = self.assert_raises_only(errors.InvalidNumber, function, *arguments, **more)
        self.assert_same(error.value, value)

    def assert_too_many(self, limit, function, *arguments, **more):
        error = self.assert_raises_only(errors.TooMany, function, *arguments, **more)
        self.assertEqual(error.limit, limit)

    def assert_same(self, result, expected):
        """The values are equal, and no tuple is a list, and no integer is True or False."""
        self.assertEqual(repr_kinds(result), repr_kinds(expected))

    def assert_yes(self, results):
        for index, result in enumerate(results):
            self.assertIs(result, True, f'number {index}')

    def assert_no(self, results):
        for index, result in enumerate(results):
            self.assertIs(result, False, f'number {index}')


def repr_kinds(value):
    """The value with the kinds of all its parts, so that equal means equal in kind as well."""
    if isinstance(value, (tuple, list)):
        return (value.__class__.__name__, [repr_kinds(part) for part in value])
    if isinstance(value, dict):
        return ('dict', [(repr_kinds(key), repr_kinds(part)) for key, part in value.items()])
    return (value.__class__.__name__, value)
