"""Looks: what cells, and trails of touches, tell of themselves."""

from slipring.board import (
    NO_ORDER, left_cell, mark_cell, marks_among, number_cell, size_of_cells, thing_cell,
)
from slipring.errors import BadCells, NoCell, NotSound
from slipring.fronts import giver_turn, sound_marks, taker_turn
from slipring.lane import follows, lane_with
from slipring.marks import FREE, mark_side
from slipring.turns import distance, onward, place_of


def owner(cells, place):
    """The hand whose place it is: the giver's while it is free, else the taker's."""
    if place not in range(size_of_cells(cells)):
        raise NoCell("the board has no such place")
    return "giver" if mark_side(cells[mark_cell(place)]) == FREE else "taker"


def slip_at(cells, place):
    """The slip at a place: number, left and thing."""
    return (cells[number_cell(place)], cells[left_cell(place)], cells[thing_cell(place)])


def slips(cells):
    """The slips of all full places, from the taker's turn on."""
    size = size_of_cells(cells)
    marks = marks_among(cells)
    if not sound_marks(marks):
        raise NotSound("the marks of the cells are not sound")
    first = taker_turn(marks)
    many = distance(size, first, giver_turn(marks))
    return [slip_at(cells, place_of(size, onward(size, first, ahead))) for ahead in range(many)]


def follows_slip(slip, ahead):
    """Whether the slip may stand behind the one ahead of it."""
    number, left, thing = slip
    number_ahead, left_ahead, thing_ahead = ahead
    if left_ahead == 0:
        return number == number_ahead + 1
    return number == number_ahead and left == left_ahead - 1


def sound_slips(size, row):
    """Whether these slips, of a ring of this size, may stand one behind the other."""
    for number, left, thing in row:
        if number < 0 or left not in range(size):
            return False
    return all([follows_slip(slip, ahead) for slip, ahead in zip(row[1:], row)])


def sound_end(cells):
    """Whether the last slip that was given ends an order, or none was given yet."""
    marks = marks_among(cells)
    size = len(marks)
    number, left, thing = slip_at(cells, place_of(size, onward(size, giver_turn(marks), -1)))
    return number >= NO_ORDER and left == 0


def sound_board(cells):
    """Whether the cells are those of a board that giving and taking may lead to."""
    try:
        row = slips(cells)
    except (BadCells, NotSound):
        return False
    if len(row) == 0:
        return sound_end(cells)
    return sound_slips(size_of_cells(cells), row)


def trail_good(size, orders, trail):
    """Whether a new lane with these orders makes just these touches, none of its hands falling."""
    lane = lane_with(size, orders)
    for touch in trail:
        if not follows(lane, touch):
            return False
    return True
