"""What touches tell of falls, to one who sees nothing but the touches.

A hand that has fallen comes up, so the first touch behind a fall is always a ring at the other
hand's bell, and the next one takes back the wish on its own card. A ring without a fall is never
followed by such a touch of the same hand. So each ring tells, by the hand's next touch, whether
the hand fell right ahead of it; where it need not have fallen, fewest falls say that it did not.
"""

from slipring.board import HANDS, NO_TURN, RUNG, bell_cell, card_cell
from slipring.lane import follows, lane_with


def other_hand(hand):
    """The name of the other hand."""
    return "taker" if hand == "giver" else "giver"


def rouse_touch(size, hand):
    """The touch that the hand makes at `rouse`."""
    return (hand, "write", bell_cell(size, other_hand(hand)), RUNG)


def clear_touch(size, hand):
    """The touch that the hand makes at `clear`."""
    return (hand, "write", card_cell(size, hand), NO_TURN)


def next_touches(trail):
    """For each touch the next one of the same hand, None where there is none."""
    behind = {}
    told = []
    for touch in reversed(trail):
        told.append(behind.get(touch[0]))
        behind[touch[0]] = touch
    told.reverse()
    return told


def must_fall(lane, touch, behind):
    """Whether the hand can make this touch, and the one behind it, only by falling ahead of it."""
    hand = touch[0]
    size = lane.board.size
    if hand not in HANDS or touch != rouse_touch(size, hand) or lane.stage(hand) == "rouse":
        return False
    return lane.stage(hand) != "ring" or behind == clear_touch(size, hand)


def explain(size, orders, trail):
    """The first touch that no falls explain, or None; and the fewest falls of each hand ahead of it."""
    lane = lane_with(size, orders)
    falls = {hand: [] for hand in HANDS}
    rows = next_touches(trail)
    for at, touch in enumerate(trail):
        if must_fall(lane, touch, rows[at]):
            lane.fall(touch[0])
            falls[touch[0]].append(at)
        if not follows(lane, touch):
            return (at, falls)
    return (None, falls)


def first_wrong(size, orders, trail):
    """The number of the first touch that no falls explain with all ahead of it, or None."""
    wrong, falls = explain(size, orders, trail)
    return wrong


def falls_of(size, orders, trail):
    """The fewest falls that explain the trail, the giver's and the taker's, or None."""
    wrong, falls = explain(size, orders, trail)
    if wrong is not None:
        return None
    return (falls["giver"], falls["taker"])
