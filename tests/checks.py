"""Assertions that several test files share."""

import unittest


class Case(unittest.TestCase):
    def fails(self, error, kept, call, *values, **more):
        """The call raises just this error, which keeps just this in its one attribute."""
        with self.assertRaises(error) as held:
            call(*values, **more)
        self.assertIs(held.exception.__class__, error)
        attributes = vars(held.exception)
        self.assertEqual(len(attributes), 1)
        found = list(attributes.values())[0]
        self.assertEqual((found, found.__class__), (kept, kept.__class__))

    def need_and_is(self, need, tells, error, value):
        """`need` raises this error alone or returns None, and `tells` agrees; what was at in the error."""
        told = tells(value)
        self.assertIn(told, (True, False))
        self.assertIs(told.__class__, bool)
        try:
            self.assertIsNone(need(value))
        except error as caught:
            self.assertIs(caught.__class__, error)
            self.assertFalse(told, value)
            return caught.at
        self.assertTrue(told, value)
        return None
