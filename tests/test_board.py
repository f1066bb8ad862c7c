"""Points 8 and 9: cells and their numbers, new boards, boards of rows of cells, touches."""

from slipring import board as board_module
from slipring.board import (
    Board, bell_cell, board_of, card_cell, left_cell, mark_cell, number_cell, thing_cell,
)
from slipring.errors import BadCells, BadSize, NoCell, NoHand
from tests.helper import BAD_HANDS, BAD_MARKS, BAD_SIZES, HUGE, SIZES, RingTest, bad_turns

NEW_TWO = [2, -1, 0, 0, 2, -1, 0, 0, -1, -1, 0, 0]


def bad_cells(size):
    return [-1, -2, -4 * size - 4, -4 * size - 5, 4 * size + 4, 4 * size + 5, 100, HUGE, -HUGE]


class CellsTest(RingTest):
    def test_names_and_arguments(self):
        asked = {
            "mark_cell": ["place"],
            "number_cell": ["place"],
            "left_cell": ["place"],
            "thing_cell": ["place"],
            "card_cell": ["size", "hand"],
            "bell_cell": ["size", "hand"],
            "Board": ["size"],
            "board_of": ["cells"],
        }
        self.same_arguments(board_module, asked)
        asked = {
            "read": ["cell"],
            "write": ["cell", "number"],
            "all_cells": [],
            "touches": [],
            "last_touch": [],
        }
        self.same_arguments(Board, asked)

    def test_cells_of_a_place(self):
        for deed, asked in ((mark_cell, 0), (number_cell, 1), (left_cell, 2), (thing_cell, 3)):
            self.same_number(deed(0), asked)
            self.same_number(deed(1), 4 + asked)
            self.same_number(deed(7), 28 + asked)
            self.same_number(deed(HUGE), 4 * HUGE + asked)

    def test_cards_and_bells(self):
        for size in SIZES:
            self.same_number(card_cell(size, "giver"), 4 * size)
            self.same_number(card_cell(size, "taker"), 4 * size + 1)
            self.same_number(bell_cell(size, "giver"), 4 * size + 2)
            self.same_number(bell_cell(size, "taker"), 4 * size + 3)
        self.assertEqual(card_cell(2, "giver"), 8)
        self.assertEqual(bell_cell(8, "taker"), 35)

    def test_each_cell_of_a_board_has_one_name(self):
        for size in SIZES:
            cells = []
            for place in range(size):
                cells += [mark_cell(place), number_cell(place), left_cell(place), thing_cell(place)]
            for deed in (card_cell, bell_cell):
                cells += [deed(size, "giver"), deed(size, "taker")]
            self.assertEqual(cells, list(range(len(Board(size).all_cells()))))

    def test_refused_cards_and_bells(self):
        for deed in (card_cell, bell_cell):
            for size in BAD_SIZES:
                for hand in ["giver", "taker"] + BAD_HANDS:
                    self.refused(BadSize, deed, size, hand)
            for size in SIZES:
                for hand in BAD_HANDS:
                    self.refused(NoHand, deed, size, hand)


class NewBoardTest(RingTest):
    def test_cells_of_a_new_board(self):
        self.assertEqual(Board(2).all_cells(), NEW_TWO)
        for size in SIZES:
            cells = Board(size).all_cells()
            self.assertEqual(len(cells), 4 * size + 4)
            for place in range(size):
                self.assertEqual(cells[4 * place:4 * place + 4], [2, -1, 0, 0])
            self.assertEqual(cells[4 * size:], [-1, -1, 0, 0])

    def test_size_and_no_touches(self):
        for size in SIZES:
            board = Board(size)
            self.same_number(board.size, size)
            self.same_number(board.touches(), 0)
            self.assertIsNone(board.last_touch())

    def test_refused_sizes(self):
        for size in BAD_SIZES:
            self.refused(BadSize, Board, size)

    def test_boards_have_nothing_in_common(self):
        one, other = Board(2), Board(2)
        one.write(0, 1)
        self.assertEqual(other.all_cells(), NEW_TWO)
        self.assertEqual(other.touches(), 0)
        self.assertEqual(Board(2).all_cells(), NEW_TWO)


class TouchTest(RingTest):
    def test_reads_and_writes_are_touches(self):
        board = Board(2)
        self.assertEqual(board.read(0), 2)
        self.assertEqual((board.touches(), board.last_touch()), (1, ("read", 0, 2)))
        self.assertIsNone(board.write(3, 17))
        self.assertEqual((board.touches(), board.last_touch()), (2, ("write", 3, 17)))
        self.assertEqual(board.read(3), 17)
        self.assertEqual((board.touches(), board.last_touch()), (3, ("read", 3, 17)))
        self.assertIsNone(board.write(11, 1))
        self.assertEqual((board.touches(), board.last_touch()), (4, ("write", 11, 1)))
        self.assertEqual(board.all_cells(), [2, -1, 0, 17, 2, -1, 0, 0, -1, -1, 0, 1])

    def test_writing_what_stands_there_is_a_touch(self):
        board = Board(3)
        for many in range(1, 50):
            board.write(0, 2)
            self.same_number(board.touches(), many)
        self.assertEqual(board.last_touch(), ("write", 0, 2))

    def test_each_cell_keeps_its_own_number(self):
        for size in SIZES:
            board = Board(size)
            for cell in range(4 * size + 4):
                board.write(cell, 1000 + cell)
            for cell in range(4 * size + 4):
                self.same_number(board.read(cell), 1000 + cell)
            self.assertEqual(board.touches(), 8 * size + 8)
            self.assertEqual(board.all_cells(), list(range(1000, 1000 + 4 * size + 4)))

    def test_numbers_below_nought_and_of_any_length(self):
        board = Board(2)
        for number in (-1, -7, HUGE, -HUGE, HUGE * HUGE):
            board.write(3, number)
            self.assertEqual(board.last_touch(), ("write", 3, number))
            self.same_number(board.read(3), number)
            self.assertEqual(board.last_touch(), ("read", 3, number))

    def test_asking_is_no_touch(self):
        board = Board(2)
        board.read(4)
        for _ in range(3):
            board.all_cells()
            board.touches()
            board.last_touch()
        self.assertEqual((board.touches(), board.last_touch()), (1, ("read", 4, 2)))

    def test_a_last_touch_is_a_tuple_that_stays(self):
        board = Board(2)
        board.read(0)
        told = board.last_touch()
        board.write(0, 3)
        self.assertIs(type(told), tuple)
        self.assertEqual(told, ("read", 0, 2))

    def test_cells_that_there_are_not(self):
        for size in SIZES:
            board = Board(size)
            board.write(1, 5)
            cells = board.all_cells()
            for cell in bad_cells(size):
                self.refused(NoCell, board.read, cell)
                self.refused(NoCell, board.write, cell, 9)
            self.assertEqual(board.all_cells(), cells)
            self.assertEqual((board.touches(), board.last_touch()), (1, ("write", 1, 5)))

    def test_a_refusal_ahead_of_all_touches(self):
        board = Board(2)
        self.refused(NoCell, board.read, 12)
        self.refused(NoCell, board.write, -1, 0)
        self.assertEqual((board.touches(), board.last_touch()), (0, None))

    def test_lists_of_cells_are_the_askers_own(self):
        board = Board(2)
        told, other = board.all_cells(), board.all_cells()
        self.assertIsNot(told, other)
        told[0] = 1
        told.clear()
        self.assertEqual(other, NEW_TWO)
        self.assertEqual(board.all_cells(), NEW_TWO)
        board.write(0, 3)
        self.assertEqual(other, NEW_TWO)


class BoardOfTest(RingTest):
    def cells_with(self, size, cell, number):
        cells = Board(size).all_cells()
        cells[cell] = number
        return cells

    def test_a_board_of_cells(self):
        cells = [1, 0, 1, -7, 1, 0, 0, HUGE, 2, -1, 0, 0, 3, 2, 0, 1]
        board = board_of(cells)
        self.assertIs(type(board), Board)
        self.same_number(board.size, 3)
        self.assertEqual(board.all_cells(), cells)
        self.assertEqual((board.touches(), board.last_touch()), (0, None))
        self.assertEqual(board.read(7), HUGE)
        self.assertEqual((board.touches(), board.last_touch()), (1, ("read", 7, HUGE)))
        board.write(15, 0)
        self.assertEqual(board.touches(), 2)
        self.refused(NoCell, board.read, 16)

    def test_cells_of_each_size(self):
        for size in SIZES:
            board = board_of(Board(size).all_cells())
            self.assertEqual(board.size, size)
            self.assertEqual(board.all_cells(), Board(size).all_cells())

    def test_as_many_cells_as_no_board_has(self):
        sizes = {4 * size + 4 for size in SIZES}
        for many in list(range(45)) + [60, 400]:
            for filling in (0, 1, 2, -1, 9):
                if many not in sizes:
                    self.refused(BadCells, board_of, [filling] * many)
        for size in SIZES:
            cells = Board(size).all_cells()
            self.refused(BadCells, board_of, cells[:-1])
            self.refused(BadCells, board_of, cells + [0])
            self.refused(BadCells, board_of, cells[1:])
        self.refused(BadCells, board_of, [2, -1, 0, 0] + [-1, -1, 0, 0])
        self.refused(BadCells, board_of, [2, -1, 0, 0] * 9 + [-1, -1, 0, 0])

    def test_marks(self):
        for size in SIZES:
            for place in range(size):
                for mark in range(4):
                    cells = self.cells_with(size, 4 * place, mark)
                    self.assertEqual(board_of(cells).all_cells(), cells)
                for mark in BAD_MARKS:
                    self.refused(BadCells, board_of, self.cells_with(size, 4 * place, mark))

    def test_crooked_marks_make_a_board(self):
        cells = [0, -1, 0, 0, 3, -1, 0, 0, 0, -1, 0, 0, -1, -1, 0, 0]
        self.assertEqual(board_of(cells).all_cells(), cells)

    def test_cards(self):
        for size in SIZES:
            for cell in (4 * size, 4 * size + 1):
                for card in range(-1, 2 * size):
                    cells = self.cells_with(size, cell, card)
                    self.assertEqual(board_of(cells).all_cells(), cells)
                for card in bad_turns(size):
                    if card != -1:
                        self.refused(BadCells, board_of, self.cells_with(size, cell, card))

    def test_bells(self):
        for size in SIZES:
            for cell in (4 * size + 2, 4 * size + 3):
                for bell in (0, 1):
                    cells = self.cells_with(size, cell, bell)
                    self.assertEqual(board_of(cells).all_cells(), cells)
                for bell in (-1, -2, 2, 3, HUGE, -HUGE):
                    self.refused(BadCells, board_of, self.cells_with(size, cell, bell))

    def test_all_other_cells_have_any_number(self):
        for size in SIZES:
            for cell in range(4 * size):
                for number in (-1, -2, 4, HUGE, -HUGE):
                    if cell not in range(0, 4 * size, 4):
                        cells = self.cells_with(size, cell, number)
                        self.assertEqual(board_of(cells).all_cells(), cells)

    def test_the_list_is_left_and_not_kept(self):
        cells = list(NEW_TWO)
        one, other = board_of(cells), board_of(cells)
        one.write(0, 3)
        self.assertEqual(cells, NEW_TWO)
        self.assertEqual(other.all_cells(), NEW_TWO)
        cells[4] = 0
        cells.clear()
        self.assertEqual(other.all_cells(), NEW_TWO)
        self.assertEqual(one.all_cells(), [3] + NEW_TWO[1:])
