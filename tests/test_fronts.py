"""Points 6 and 7: fronts of rows of bits, and what rows of marks tell."""

import itertools
import unittest

from slipring import fronts
from slipring.errors import BadMark, BadSize, Crooked, NoTurn
from slipring.fronts import front, giver_turn, marks_of, sound_marks, taker_turn
from tests.helper import BAD_MARKS, BAD_SIZES, HUGE, SIZES, RingTest, bad_turns


def changes(bits):
    return sum(1 for one, other in zip(bits, bits[1:]) if one != other)


def straight_rows(size):
    """Each turn with the one row of bits whose front it is, by filling the row bit by bit."""
    row = [1] * size
    rows = {}
    for turn in range(2 * size):
        rows[turn] = list(row)
        row[turn % size] = turn // size
    return rows


def given_and_taken(size):
    """Each (taker, giver) with its row of marks, by giving and taking from a new ring on."""
    rows = {}
    for taken in range(2 * size):
        for ahead in range(size + 1):
            row = [2] * size
            for turn in range(taken + ahead):
                lap = turn // size % 2
                row[turn % size] = 2 * lap + 1 if turn >= taken else 2 * lap
            rows[(taken, (taken + ahead) % (2 * size))] = row
    return rows


class NamesTest(RingTest):
    def test_names_and_arguments(self):
        asked = {
            "front": ["bits"],
            "giver_turn": ["marks"],
            "taker_turn": ["marks"],
            "marks_of": ["size", "taker", "giver"],
            "sound_marks": ["marks"],
        }
        self.same_arguments(fronts, asked)


class FrontTest(RingTest):
    def test_rows_with_both_bits(self):
        self.same_number(front([0, 1]), 1)
        self.same_number(front([1, 0]), 3)
        self.same_number(front([0, 1, 1]), 1)
        self.same_number(front([0, 0, 1]), 2)
        self.same_number(front([1, 0, 0]), 4)
        self.same_number(front([1, 1, 0]), 5)
        self.same_number(front([0, 0, 0, 0, 0, 0, 0, 1]), 7)
        self.same_number(front([1, 1, 1, 1, 1, 1, 1, 0]), 15)
        self.same_number(front([1, 0, 0, 0, 0, 0, 0, 0]), 9)

    def test_rows_all_alike(self):
        for size in SIZES:
            self.same_number(front([0] * size), size)
            self.same_number(front([1] * size), 0)

    def test_each_row_of_bits(self):
        for size in SIZES:
            turns = {tuple(row): turn for turn, row in straight_rows(size).items()}
            for bits in itertools.product((0, 1), repeat=size):
                if changes(bits) > 1:
                    self.assertNotIn(bits, turns)
                    self.refused(Crooked, front, list(bits))
                else:
                    self.same_number(front(list(bits)), turns[bits])

    def test_crooked_rows(self):
        for bits in ([0, 1, 0], [1, 0, 1], [0, 1, 1, 0], [1, 0, 0, 0, 0, 0, 0, 1]):
            self.refused(Crooked, front, bits)

    def test_rows_of_no_size_go_first(self):
        for many in (0, 1, 9, 10, 100):
            self.refused(BadSize, front, [0] * many)
            self.refused(BadSize, front, [1] * many)
            self.refused(BadSize, front, [2] * many)
            self.refused(BadSize, front, ([0, 1] * many)[:many])

    def test_bits_that_are_none_go_ahead_of_crooked(self):
        for size in SIZES:
            for bad in (-1, 2, 3, HUGE, -HUGE):
                self.refused(BadMark, front, [bad] * size)
                for place in range(size):
                    bits = [0] * size
                    bits[place] = bad
                    self.refused(BadMark, front, bits)
        self.refused(BadMark, front, [0, 1, 0, 2])
        self.refused(BadMark, front, [-1, 0, 1, 0])

    def test_the_row_is_left_as_it_was(self):
        bits = [0, 0, 1]
        front(bits)
        self.assertEqual(bits, [0, 0, 1])


class MarksRowTest(RingTest):
    def test_a_new_ring(self):
        for size in SIZES:
            new = [2] * size
            self.same_number(giver_turn(new), 0)
            self.same_number(taker_turn(new), 0)
            self.assertIs(sound_marks(new), True)

    def test_written_rows(self):
        self.assertEqual(marks_of(3, 0, 0), [2, 2, 2])
        self.assertEqual(marks_of(3, 0, 2), [1, 1, 2])
        self.assertEqual(marks_of(3, 0, 3), [1, 1, 1])
        self.assertEqual(marks_of(3, 1, 4), [3, 1, 1])
        self.assertEqual(marks_of(3, 3, 3), [0, 0, 0])
        self.assertEqual(marks_of(3, 5, 1), [1, 2, 3])
        self.assertEqual(marks_of(2, 3, 1), [1, 3])
        self.assertEqual(marks_of(8, 15, 7), [1, 1, 1, 1, 1, 1, 1, 3])

    def test_rows_as_giving_and_taking_make_them(self):
        for size in SIZES:
            for (taker, giver), row in given_and_taken(size).items():
                self.same_number(giver_turn(row), giver)
                self.same_number(taker_turn(row), taker)
                self.assertIs(sound_marks(row), True)
                told = marks_of(size, taker, giver)
                self.assertIs(type(told), list)
                self.assertEqual(told, row)
                self.assertTrue(all(type(mark) is int for mark in told))

    def test_full_places_are_those_between_the_turns(self):
        for size in SIZES:
            for taker, giver in given_and_taken(size):
                ahead = (giver - taker) % (2 * size)
                asked = {(taker + k) % size for k in range(ahead)}
                row = marks_of(size, taker, giver)
                self.assertEqual({q for q in range(size) if row[q] % 2 == 1}, asked)

    def test_each_row_of_marks(self):
        for size in range(2, 7):
            sound = {tuple(row) for row in given_and_taken(size).values()}
            self.assertEqual(len(sound), 2 * size * (size + 1))
            for row in itertools.product(range(4), repeat=size):
                self.check_row(list(row), row in sound)

    def check_row(self, row, sound):
        turns = {tuple(bits): turn for turn, bits in straight_rows(len(row)).items()}
        laps = tuple(mark // 2 for mark in row)
        unlike = tuple(1 if mark in (1, 2) else 0 for mark in row)
        for deed, bits in ((giver_turn, laps), (taker_turn, unlike)):
            if bits in turns:
                self.assertEqual(deed(row), turns[bits])
            else:
                self.refused(Crooked, deed, row)
        self.assertIs(sound_marks(row), sound)

    def test_just_as_far_as_the_size_and_one_farther(self):
        for size in SIZES:
            for taker in range(2 * size):
                far = (taker + size) % (2 * size)
                self.assertTrue(all(mark % 2 == 1 for mark in marks_of(size, taker, far)))
                for more in range(size + 1, 2 * size):
                    self.refused(Crooked, marks_of, size, taker, (taker + more) % (2 * size))

    def test_straight_fronts_too_far_apart_are_not_sound(self):
        self.assertEqual((taker_turn([0, 2]), giver_turn([0, 2])), (1, 1))
        self.assertIs(sound_marks([0, 2]), True)
        self.assertEqual((taker_turn([3, 2]), giver_turn([3, 2])), (1, 0))
        self.assertIs(sound_marks([3, 2]), False)
        self.assertEqual((taker_turn([2, 3]), giver_turn([2, 3])), (3, 0))
        self.assertIs(sound_marks([2, 3]), True)

    def test_crooked_on_one_side_alone(self):
        self.refused(Crooked, giver_turn, [0, 3, 0])
        self.same_number(taker_turn([0, 3, 0]), 3)
        self.assertIs(sound_marks([0, 3, 0]), False)
        self.refused(Crooked, taker_turn, [0, 1, 0])
        self.same_number(giver_turn([0, 1, 0]), 3)
        self.assertIs(sound_marks([0, 1, 0]), False)


class RefusedMarksRowTest(RingTest):
    def test_rows_of_no_size_go_first(self):
        for many in (0, 1, 9, 10, 100):
            for deed in (giver_turn, taker_turn, sound_marks):
                for mark in (0, 2, -1, 4):
                    self.refused(BadSize, deed, [mark] * many)
                self.refused(BadSize, deed, ([0, 3] * many)[:many])

    def test_marks_that_are_none_go_ahead_of_crooked(self):
        for deed in (giver_turn, taker_turn, sound_marks):
            for bad in BAD_MARKS:
                for size in SIZES:
                    for place in range(size):
                        row = [2] * size
                        row[place] = bad
                        self.refused(BadMark, deed, row)
                self.refused(BadMark, deed, [0, 2, 0, bad])
                self.refused(BadMark, deed, [bad, 0, 3, 1])

    def test_marks_of_bad_sizes_go_first(self):
        for size in BAD_SIZES:
            for taker, giver in ((0, 0), (-1, 0), (0, -1), (0, HUGE), (0, 17)):
                self.refused(BadSize, marks_of, size, taker, giver)

    def test_marks_of_bad_turns_go_ahead_of_too_far(self):
        for size in SIZES:
            for bad in bad_turns(size):
                for turn in range(2 * size):
                    self.refused(NoTurn, marks_of, size, bad, turn)
                    self.refused(NoTurn, marks_of, size, turn, bad)
                self.refused(NoTurn, marks_of, size, bad, bad)


class OwnListsTest(unittest.TestCase):
    def test_rows_that_are_told_are_the_askers_own(self):
        first = marks_of(4, 0, 2)
        second = marks_of(4, 0, 2)
        self.assertIsNot(first, second)
        first[0] = 3
        first.append(9)
        self.assertEqual(second, [1, 1, 2, 2])
        self.assertEqual(marks_of(4, 0, 2), [1, 1, 2, 2])

    def test_rows_that_are_handed_in_are_left_and_not_kept(self):
        row = [1, 1, 2, 2]
        told = (giver_turn(row), taker_turn(row), sound_marks(row))
        self.assertEqual(row, [1, 1, 2, 2])
        self.assertEqual(told, (2, 0, True))
        row[:] = [0, 3, 0, 3]
        self.assertEqual(giver_turn([1, 1, 2, 2]), 2)
        self.assertIs(sound_marks(row), False)
