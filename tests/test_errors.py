"""Point 2 and the interface: the refusals and how they stand to one another."""

import inspect
import unittest

from slipring import errors

NAMES = [
    "BadSize", "NoTurn", "BadMark", "Crooked", "NoCell", "BadCells", "BadOrder", "NoHand",
    "NoWaiting", "NotSound", "BadStand", "TooMany", "NoName", "NoText", "NoRow",
]


class ErrorsTest(unittest.TestCase):
    def test_ring_error_stands_straight_under_value_error(self):
        self.assertEqual(errors.RingError.__bases__, (ValueError,))

    def test_each_refusal_stands_straight_under_ring_error(self):
        for name in NAMES:
            with self.subTest(name=name):
                self.assertEqual(getattr(errors, name).__bases__, (errors.RingError,))

    def test_no_two_names_are_one_class(self):
        self.assertEqual(len({getattr(errors, name) for name in NAMES}), len(NAMES))

    def test_there_are_no_others(self):
        there = [name for name, _ in inspect.getmembers(errors, inspect.isclass)]
        self.assertEqual(sorted(there), sorted(NAMES + ["RingError"]))

    def test_each_is_raised_and_taken_by_its_name(self):
        for name in NAMES:
            refusal = getattr(errors, name)
            with self.subTest(name=name):
                with self.assertRaises(refusal) as caught:
                    raise refusal("some words")
                self.assertIsInstance(caught.exception, errors.RingError)
                self.assertEqual(str(caught.exception), "some words")
