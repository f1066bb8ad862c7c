"""Stands: all that a lane's going on hangs on, told as tuples."""

from slipring.board import NO_ORDER, size_of_cells
from slipring.errors import BadCells, BadOrder, BadStand
from slipring.lane import Lane
from slipring.marks import MOST_MARK
from slipring.orders import orders_of
from slipring.turns import distance

COMING_UP = ("rouse", "clear", "mute", "marks")
WAITING = ("look", "wish", "again", "sleep", "hush", "unwish")
ASKING = ("told", "lacks")
GIVING = ("number", "left", "thing", "mark", "card", "ring")
TAKING = ("number", "left", "thing")
FREEING = ("free", "card", "ring")
GIVER_STAGES = COMING_UP + ASKING + WAITING + GIVING
TAKER_STAGES = COMING_UP + WAITING + TAKING + FREEING


def frozen(orders):
    """The orders as a tuple of tuples."""
    return tuple([tuple(order) for order in orders])


def stand_of(lane):
    """The lane's stand: cells, giver, taker, orders, book."""
    cells = tuple(lane.cells())
    return (cells, lane.giver.mind(), lane.taker.mind(), frozen(lane.orders()), frozen(lane.book()))


def size_of_stand(cells, orders, book):
    """The size of the ring; refuse cells that make no board, and orders that are none for it."""
    try:
        size = size_of_cells(cells)
        orders_of(size, orders)
        orders_of(size, book)
    except (BadCells, BadOrder):
        raise BadStand("a stand has the cells of a board, and orders for its size") from None
    return size


def turn_fits(size, stage, turn):
    """Whether the hand has a turn in mind just where it knows it."""
    if stage in COMING_UP:
        return turn is None
    return turn is not None and turn in range(2 * size)


def marks_fit(size, stage, marks):
    """Whether these marks are what a hand may have read so far."""
    if stage != "marks":
        return len(marks) == 0
    return len(marks) < size and all([mark in range(MOST_MARK + 1) for mark in marks])


def part_fits(stage, order, part, orders):
    """Whether order and part tell which part the giver gives next."""
    if stage in COMING_UP or stage == "told":
        return order == 0 and part == 0
    if stage == "lacks":
        return order in range(NO_ORDER, len(orders)) and part == 0
    if order == len(orders):
        return stage in WAITING and part == 0
    return order in range(len(orders)) and part in range(len(orders[order]))


def giver_fits(size, mind, orders):
    """Whether a giver may have this in mind."""
    stage, turn, marks, order, part = mind
    if stage not in GIVER_STAGES:
        return False
    if not turn_fits(size, stage, turn) or not marks_fit(size, stage, marks):
        return False
    return part_fits(stage, order, part, orders)


def reading_fits(stage, number, left):
    """Whether number and left are told just where they were read and are still asked."""
    if number != 0 and stage != "left" and stage != "thing":
        return False
    return left == 0 or (left > 0 and stage == "thing")


def parts_fit(size, stage, turn, first, parts):
    """Whether the taker has read as many parts as lie between its two turns."""
    if stage in COMING_UP:
        return len(parts) == 0
    many = distance(size, first, turn)
    if stage in FREEING:
        return len(parts) == 0 and many < size
    return len(parts) == many and many < size


def taker_fits(size, mind):
    """Whether a taker may have this in mind."""
    stage, turn, marks, first, number, left, parts = mind
    if stage not in TAKER_STAGES:
        return False
    if not turn_fits(size, stage, turn) or not turn_fits(size, stage, first):
        return False
    if not marks_fit(size, stage, marks) or not reading_fits(stage, number, left):
        return False
    return parts_fit(size, stage, turn, first, parts)


def check_stand(stand):
    """Refuse what is no stand."""
    cells, giver, taker, orders, book = stand
    size = size_of_stand(cells, orders, book)
    if not giver_fits(size, giver, orders):
        raise BadStand("no giver has this in mind")
    if not taker_fits(size, taker):
        raise BadStand("no taker has this in mind")


def lane_standing(stand):
    """A lane that stands so, of what is surely a stand."""
    cells, giver, taker, orders, book = stand
    lane = Lane(size_of_cells(cells))
    lane.board.fill(cells)
    lane.place_giver(orders)
    lane.place_taker(book)
    lane.giver.recall(giver)
    lane.taker.recall(taker)
    return lane


def lane_at(stand):
    """A lane that stands so, without a trail and without touches."""
    check_stand(stand)
    return lane_standing(stand)
