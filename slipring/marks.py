"""Marks: what a place tells of its lap, and of its being full or free."""

from slipring.errors import BadMark
from slipring.turns import check_turn, lap_of

FREE = 0
FULL = 1
MOST_MARK = 3


def check_mark(mark):
    """Refuse what is no mark."""
    if mark < 0 or mark > MOST_MARK:
        raise BadMark("a mark is from 0 to 3")


def mark_of(lap, side):
    """The mark with this lap and this side."""
    return 2 * lap + side


def mark_lap(mark):
    """The lap of a mark."""
    return mark // 2


def mark_side(mark):
    """The side of a mark: FULL or FREE."""
    return mark % 2


def full_mark(size, turn):
    """The mark that giving at the turn puts there."""
    return mark_of(lap_of(size, turn), FULL)


def free_mark(size, turn):
    """The mark that taking at the turn puts there."""
    return mark_of(lap_of(size, turn), FREE)


def mark_to_give(size, turn):
    """The mark at which it may be given at the turn."""
    # The place must have been freed in the round before, which is always in the other lap.
    return mark_of(1 - lap_of(size, turn), FREE)


def may_give(size, turn, mark):
    """Whether it may be given at the turn where its place has this mark."""
    check_turn(size, turn)
    check_mark(mark)
    return mark == mark_to_give(size, turn)


def may_take(size, turn, mark):
    """Whether it may be taken at the turn where its place has this mark."""
    check_turn(size, turn)
    check_mark(mark)
    return mark == full_mark(size, turn)
