"""Fronts: the turns that a row of bits, or a row of marks, tells."""

from slipring.errors import BadMark, Crooked
from slipring.marks import check_mark, mark_lap, mark_of, mark_side
from slipring.turns import check_size, distance, lap_of, onward, place_of


def check_bits(bits):
    """Refuse a row that is too short or too long, then one with a bit that is none."""
    check_size(len(bits))
    for bit in bits:
        if bit < 0 or bit > 1:
            raise BadMark("a bit is 0 or 1")


def check_marks(marks):
    """Refuse a row that is too short or too long, then one with a mark that is none."""
    check_size(len(marks))
    for mark in marks:
        check_mark(mark)


def alike_ahead(bits):
    """How many bits at the row's beginning are alike."""
    many = 1
    while many < len(bits) and bits[many] == bits[0]:
        many += 1
    return many


def front(bits):
    """The turn up to which the row's places have been passed."""
    check_bits(bits)
    many = alike_ahead(bits)
    if bits[0] in bits[many:]:
        raise Crooked("the row changes more than once")
    size = len(bits)
    # Where all are alike, going on over the last place leads to place 0 in the other lap.
    return onward(size, bits[0] * size, many)


def bits_before(size, turn):
    """The row of bits whose front is this turn."""
    lap = lap_of(size, turn)
    place = place_of(size, turn)
    return [lap if at < place else 1 - lap for at in range(size)]


def taker_bit(mark):
    """The lap in which the place was passed by the taker last."""
    return 1 if mark_lap(mark) != mark_side(mark) else 0


def mark_with(lap, bit):
    """The mark with this lap and this taker's bit."""
    return mark_of(lap, lap if bit == 0 else 1 - lap)


def giver_turn(marks):
    """The turn at which it is given next."""
    check_marks(marks)
    return front([mark_lap(mark) for mark in marks])


def taker_turn(marks):
    """The turn at which it is taken next."""
    check_marks(marks)
    return front([taker_bit(mark) for mark in marks])


def marks_of(size, taker, giver):
    """The one sound row of marks with these turns."""
    if distance(size, taker, giver) > size:
        raise Crooked("the giver is farther ahead of the taker than the ring has places")
    laps = bits_before(size, giver)
    bits = bits_before(size, taker)
    return [mark_with(lap, bit) for lap, bit in zip(laps, bits)]


def sound_marks(marks):
    """Whether both fronts are there, and no farther apart than the size."""
    check_marks(marks)
    try:
        ahead = distance(len(marks), taker_turn(marks), giver_turn(marks))
    except Crooked:
        return False
    return ahead <= len(marks)
