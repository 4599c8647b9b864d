"""A test case that asks which error a call raises."""

import unittest

from labelmoves.errors import TooLong


class Raising(unittest.TestCase):
    def raised(self, error, call, *values, **named):
        with self.assertRaises(error) as caught:
            call(*values, **named)
        self.assertIs(type(caught.exception), error)
        return caught.exception

    def assert_given(self, error, given, call, *values, **named):
        """The very value is told."""
        self.assertIs(self.raised(error, call, *values, **named).given, given)

    def assert_index(self, error, index, call, *values, **named):
        told = self.raised(error, call, *values, **named).index
        self.assertEqual(told, index)
        self.assertIs(type(told), type(index))

    def assert_too_long(self, call, *values, **named):
        self.assertEqual(self.raised(TooLong, call, *values, **named).limit, 20000)
