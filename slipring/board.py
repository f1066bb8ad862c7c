"""Boards: the cells that the two hands have in common."""

from slipring.errors import BadCells, NoCell, NoHand
from slipring.marks import MOST_MARK
from slipring.turns import LEAST_SIZE, MOST_SIZE, check_size

HANDS = ("giver", "taker")
CELLS_OF_A_PLACE = 4
NEW_MARK = 2
NO_ORDER = -1
NO_TURN = -1
STILL = 0
RUNG = 1


def check_hand(hand):
    """Refuse a text that names no hand."""
    if hand not in HANDS:
        raise NoHand("a hand is giver or taker")


def mark_cell(place):
    """The cell with the place's mark."""
    return CELLS_OF_A_PLACE * place


def number_cell(place):
    """The cell with the number of the order there."""
    return CELLS_OF_A_PLACE * place + 1


def left_cell(place):
    """The cell that tells how many parts of the order come behind this one."""
    return CELLS_OF_A_PLACE * place + 2


def thing_cell(place):
    """The cell with the part itself."""
    return CELLS_OF_A_PLACE * place + 3


def card_cell(size, hand):
    """The cell with the hand's card, behind those of all places."""
    check_size(size)
    check_hand(hand)
    return CELLS_OF_A_PLACE * size + HANDS.index(hand)


def bell_cell(size, hand):
    """The cell with the hand's bell, behind both cards."""
    return card_cell(size, hand) + len(HANDS)


def new_cells(size):
    """The cells of a board on which nothing was given yet."""
    return [NEW_MARK, NO_ORDER, 0, 0] * size + [NO_TURN, NO_TURN, STILL, STILL]


def marks_among(cells):
    """The marks of all places, out of the cells of a board."""
    places = len(cells) // CELLS_OF_A_PLACE - 1
    return [cells[mark_cell(place)] for place in range(places)]


def size_of_cells(cells):
    """The size of the board that these cells make; refuse cells that make none."""
    for size in range(LEAST_SIZE, MOST_SIZE + 1):
        if len(cells) == len(new_cells(size)):
            check_numbers(size, cells)
            return size
    raise BadCells("there is no board with so many cells")


def check_numbers(size, cells):
    """Refuse a mark, a card or a bell that is none."""
    for mark in marks_among(cells):
        if mark < 0 or mark > MOST_MARK:
            raise BadCells("a mark is from 0 to 3")
    for hand in HANDS:
        # NO_TURN is -1, right below the first turn.
        card = cells[card_cell(size, hand)]
        if card < NO_TURN or card >= 2 * size:
            raise BadCells("a card has -1 or a turn")
        bell = cells[bell_cell(size, hand)]
        if bell != STILL and bell != RUNG:
            raise BadCells("a bell is 0 or 1")


class Board:
    """Cells that are read and written one at a time, each touch being counted."""

    def __init__(self, size):
        check_size(size)
        self.size = size
        self.numbers = new_cells(size)
        self.many_touches = 0
        self.newest_touch = None

    def check_cell(self, cell):
        """Refuse a cell that is not there; one below nought would be counted from the end."""
        if cell < 0 or cell >= len(self.numbers):
            raise NoCell("the board has no such cell")

    def note_touch(self, deed, cell, value):
        """Count a touch, and keep it as the last one."""
        self.many_touches += 1
        self.newest_touch = (deed, cell, value)

    def read(self, cell):
        """The number in the cell."""
        self.check_cell(cell)
        self.note_touch("read", cell, self.numbers[cell])
        return self.numbers[cell]

    def write(self, cell, number):
        """Put the number into the cell."""
        self.check_cell(cell)
        self.numbers[cell] = number
        self.note_touch("write", cell, number)

    def fill(self, cells):
        """Have these numbers in its cells, without touching them."""
        self.numbers = list(cells)

    def all_cells(self):
        """The numbers of all cells, without touching them."""
        return list(self.numbers)

    def touches(self):
        """How often a cell was read or written."""
        return self.many_touches

    def last_touch(self):
        """The deed, the cell and the value of the last touch, None where there was none."""
        return self.newest_touch


def board_of(cells):
    """A board with these cells, which has not been touched."""
    board = Board(size_of_cells(cells))
    board.fill(cells)
    return board
