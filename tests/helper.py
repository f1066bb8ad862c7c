"""What the tests of several modules have in common."""

import copy
import inspect
import unittest

from slipring.board import Board, board_of
from slipring.errors import BadOrder
from slipring.fronts import marks_of

SIZES = range(2, 9)
HUGE = 10 ** 60 - 1
BAD_SIZES = [1, 0, -1, -2, -8, 9, 10, 16, 100, HUGE, -HUGE]
BAD_MARKS = [-1, -2, -4, 4, 5, 8, HUGE, -HUGE]
BAD_HANDS = ["", " ", "Giver", "TAKER", "giver ", " taker", "give", "takers", "giver\n", "asker", "house"]


def bad_turns(size):
    return [-1, -2, -size, -2 * size, 2 * size, 2 * size + 1, 4 * size, HUGE, -HUGE]


def bad_orders(size):
    """Lists that are no orders: without parts, and with too many."""
    return [[], [0] * (size + 1), list(range(size + 2)), [HUGE] * 30]


def board_at(size, taker, giver, slips=()):
    """A board at whose marks the hands have these turns; a slip is (turn, number, left, thing)."""
    cells = Board(size).all_cells()
    for place, mark in enumerate(marks_of(size, taker, giver)):
        cells[4 * place] = mark
    for turn, number, left, thing in slips:
        place = turn % size
        cells[4 * place + 1:4 * place + 4] = [number, left, thing]
    return board_of(cells)


def step_to(hand, stage, least=0):
    """Step the hand until it is at the stage, so many times at least."""
    for many in range(200):
        if many >= least and hand.stage() == stage:
            return
        hand.step()
    raise AssertionError(f"the hand never comes to {stage}")


class RingTest(unittest.TestCase):
    def same_number(self, told, asked):
        self.assertIs(type(told), int)
        self.assertEqual(told, asked)

    def refused(self, error, deed, *things):
        """The very error is told, and what was handed in is left as it was."""
        copies = [copy.deepcopy(thing) if isinstance(thing, list) else thing for thing in things]
        with self.assertRaises(error) as caught:
            deed(*things)
        self.assertIs(type(caught.exception), error, (deed.__name__, things))
        self.assertEqual(list(things), copies)

    def same_arguments(self, holder, asked):
        for name, arguments in asked.items():
            there = inspect.signature(getattr(holder, name)).parameters
            self.assertEqual([one for one in there if one != "self"], arguments, name)

    def refuses_bad_orders(self, hand):
        """No such hand is made where one of its orders is none, and the board is left as it was."""
        for size in SIZES:
            board = Board(size)
            good = [[1], [2] * size, [-3, HUGE]]
            for bad in bad_orders(size):
                for place in range(len(good) + 1):
                    self.refused(BadOrder, hand, board, good[:place] + [bad] + good[place:])
                self.refused(BadOrder, hand, board, [bad, bad])
            self.assertEqual((board.touches(), board.all_cells()), (0, Board(size).all_cells()))

    def walks(self, board, hand, rows):
        """The hand steps through the rows (stage, deed, cell, value, stage then), and touches nothing else."""
        for row in rows:
            stage, deed, cell, value, then = row
            cells, touches = board.all_cells(), board.touches()
            self.assertEqual(hand.stage(), stage, row)
            self.assertIs(hand.step(), True, row)
            self.assertEqual(board.last_touch(), (deed, cell, value), row)
            self.assertEqual(board.touches(), touches + 1, row)
            if deed == "write":
                cells[cell] = value
            self.assertEqual(board.all_cells(), cells, row)
            self.assertEqual(hand.stage(), then, row)
