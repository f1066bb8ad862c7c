"""Turns: the numbers of the steps round a ring that is gone round twice and then anew."""

from slipring.errors import BadSize, NoTurn

LEAST_SIZE = 2
MOST_SIZE = 8


def check_size(size):
    """Refuse what is no size of a ring."""
    if size < LEAST_SIZE or size > MOST_SIZE:
        raise BadSize("a ring has from 2 to 8 places")


def check_turn(size, turn):
    """Refuse what is no size, then what is no turn of that size."""
    check_size(size)
    if turn < 0 or turn >= 2 * size:
        raise NoTurn("a turn is from 0 to twice the size, less one")


def place_of(size, turn):
    """The place that the turn comes to."""
    check_turn(size, turn)
    return turn % size


def lap_of(size, turn):
    """0 in the first round, 1 in the second one."""
    check_turn(size, turn)
    return turn // size


def onward(size, turn, many):
    """The turn that lies so many ahead, or behind where many is below nought."""
    check_turn(size, turn)
    return (turn + many) % (2 * size)


def distance(size, one, other):
    """How far one has to go onward from the one turn to the other."""
    check_turn(size, one)
    check_turn(size, other)
    return (other - one) % (2 * size)
