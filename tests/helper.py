"""What the tests of several modules have in common."""

import inspect
import unittest

SIZES = range(2, 9)
HUGE = 10 ** 60 - 1
BAD_SIZES = [1, 0, -1, -2, -8, 9, 10, 16, 100, HUGE, -HUGE]
BAD_MARKS = [-1, -2, -4, 4, 5, 8, HUGE, -HUGE]


def bad_turns(size):
    return [-1, -2, -size, -2 * size, 2 * size, 2 * size + 1, 4 * size, HUGE, -HUGE]


class RingTest(unittest.TestCase):
    def same_number(self, told, asked):
        self.assertIs(type(told), int)
        self.assertEqual(told, asked)

    def refused(self, error, deed, *things):
        """The very error is told, and what was handed in is left as it was."""
        copies = [list(thing) if isinstance(thing, list) else thing for thing in things]
        with self.assertRaises(error) as caught:
            deed(*things)
        self.assertIs(type(caught.exception), error, (deed.__name__, things))
        self.assertEqual(list(things), copies)

    def same_arguments(self, module, asked):
        for name, arguments in asked.items():
            there = inspect.signature(getattr(module, name)).parameters
            self.assertEqual(list(there), arguments, name)
