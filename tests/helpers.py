"""What several tests do."""

import unittest


class TallyTest(unittest.TestCase):
    """A test with a check of an error and all of its fields."""

    def check_raises(self, error, fields, call, *args, **named):
        """Check that the call raises exactly this error, with exactly these fields."""
        with self.assertRaises(error) as caught:
            call(*args, **named)
        self.assertIs(caught.exception.__class__, error)
        found = vars(caught.exception)
        self.assertEqual(list(found), list(fields))
        for field in fields:
            # An equal value is not enough: True is not 1.
            self.assertIs(found[field].__class__, fields[field].__class__)
            self.assertEqual(found[field], fields[field])

    def check_value(self, value, expected):
        """Check that the value is the expected one and of the same kind."""
        self.assertEqual(repr(value), repr(expected))
