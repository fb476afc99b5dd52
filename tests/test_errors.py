"""Promises 0.8 and 0.9: the error classes."""

import unittest

from roomprofile import errors

WITH_MESSAGE = (
    'InvalidJob', 'InvalidAddress', 'InvalidState', 'InvalidRun', 'InvalidValleys', 'InvalidProfile', 'InvalidPlan',
    'InvalidContext', 'InvalidChoice', 'InvalidOperation', 'InvalidExpression', 'InvalidPaper', 'ParseError',
    'InvalidCommand',
)
WITH_VALUE = {
    'UnknownName': (KeyError, 'name'), 'NameConflict': (LookupError, 'name'), 'InvalidNumber': (IndexError, 'value'),
    'TooMany': (OverflowError, 'limit'), 'NotEnough': (RuntimeError, 'least'),
}


class ErrorsTest(unittest.TestCase):
    def test_job_error(self):
        self.assertEqual(errors.JobError.__bases__, (ValueError,))
        self.assertEqual(str(errors.JobError('why')), 'why')

    def test_errors_with_a_message(self):
        for name in WITH_MESSAGE:
            with self.subTest(name):
                kind = getattr(errors, name)
                self.assertEqual(kind.__bases__, (errors.JobError,))
                self.assertEqual(kind.__module__, 'roomprofile.errors')
                self.assertEqual(str(kind('why')), 'why')

    def test_errors_with_a_value(self):
        for name, (base, attribute) in WITH_VALUE.items():
            kind = getattr(errors, name)
            for value in ('work', 5, None, True, (), [1], 10 ** 70, 10 ** 5000):
                with self.subTest(name):
                    self.assertEqual(kind.__bases__, (base,))
                    self.assertIs(getattr(kind(value), attribute), value)
                    self.assertIs(getattr(kind(**{attribute: value}), attribute), value)

    def test_errors_with_a_value_take_one(self):
        for name in WITH_VALUE:
            with self.assertRaises(TypeError):
                getattr(errors, name)()
            with self.assertRaises(TypeError):
                getattr(errors, name)(1, 2)

    def test_errors_are_caught_apart(self):
        kinds = [getattr(errors, name) for name in WITH_MESSAGE + tuple(WITH_VALUE)]
        for kind in kinds:
            for other in kinds:
                self.assertEqual(issubclass(kind, other), kind is other)
        for name in WITH_VALUE:
            self.assertFalse(issubclass(getattr(errors, name), errors.JobError))


if __name__ == '__main__':
    unittest.main()
