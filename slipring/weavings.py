"""All weavings: every stand that any row of steps, with a fall or without, leads a small ring to."""

from slipring.board import HANDS
from slipring.errors import TooMany
from slipring.lane import lane_with
from slipring.stands import lane_standing, stand_of

MOST_PARTS = 3
MOST_PARTS_WITH_A_FALL = 1


def check_few(size, orders, falls):
    """Refuse what leads to more stands than are gone through."""
    if size not in (2, 3):
        raise TooMany("weavings are gone through of rings of 2 or 3 places")
    if falls not in (0, 1):
        raise TooMany("weavings are gone through with one fall at most")
    if sum([len(order) for order in orders]) > (MOST_PARTS if falls == 0 else MOST_PARTS_WITH_A_FALL):
        raise TooMany("there are more parts than weavings are gone through of")


def stand_behind(stand, hand):
    """The stand behind a step of the hand."""
    lane = lane_standing(stand)
    lane.step(hand)
    return stand_of(lane)


def stand_fallen(stand, hand):
    """The stand behind a fall of the hand."""
    lane = lane_standing(stand)
    lane.fall(hand)
    return stand_of(lane)


def is_quiet(stand):
    """Whether a lane that stands so is quiet."""
    return lane_standing(stand).quiet()


class Weavings:
    """All stands of a ring with these orders, and the ways by which they come.

    A way is the stand ahead of a step and the hand that makes it, None where no step leads there.
    Stands are gone through as they come, the giver's step ahead of the taker's: so the way to
    each is the first one of the shortest ones.
    """

    def __init__(self, size, orders, falls):
        start = stand_of(lane_with(size, orders))
        check_few(size, orders, falls)
        self.ways = {start: None}
        self.follow_steps([start])
        # Steps alone lead to a quiet stand, so a fall brings none that is nearer.
        self.nearest = [stand for stand in self.ways if is_quiet(stand)][0]
        if falls == 1:
            self.follow_steps(self.note_falls())

    def follow_steps(self, row):
        """Go from the stands of the row to all that steps lead to; the row grows meanwhile."""
        at = 0
        while at < len(row):
            for hand in HANDS:
                stand = stand_behind(row[at], hand)
                if stand not in self.ways:
                    self.ways[stand] = (row[at], hand)
                    row.append(stand)
            at += 1

    def note_falls(self):
        """The stands, not come to before, that a fall leads to from any of those that have come."""
        fallen = []
        for stand in list(self.ways):
            for hand in HANDS:
                behind = stand_fallen(stand, hand)
                if behind not in self.ways:
                    self.ways[behind] = None
                    fallen.append(behind)
        return fallen

    def many(self):
        """How many unlike stands come."""
        return len(self.ways)

    def many_quiet(self):
        """How many of them are quiet."""
        return len([stand for stand in self.ways if is_quiet(stand)])

    def least(self):
        """The first one of the shortest rows of hands that lead to a quiet stand, none falling."""
        row = []
        way = self.ways[self.nearest]
        while way is not None:
            stand, hand = way
            row.append(hand)
            way = self.ways[stand]
        row.reverse()
        return row
