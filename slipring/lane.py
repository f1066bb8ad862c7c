"""The lane: a board with a giver and a taker, either of which is stepped, or falls, at any moment."""

from slipring.board import Board, check_hand
from slipring.giver import Giver
from slipring.taker import Taker


class Lane:
    """A board and its two hands as they are now. It keeps the trail: all their touches, in order."""

    def __init__(self, size):
        self.board = Board(size)
        self.kept_trail = []
        self.place_giver([])
        self.place_taker([])

    def place_giver(self, orders):
        """Have a giver that comes up, with these orders."""
        giver = Giver(self.board, orders)
        giver.touched = self.kept_trail
        self.giver = giver

    def place_taker(self, book):
        """Have a taker that comes up, with this book."""
        taker = Taker(self.board, book)
        taker.touched = self.kept_trail
        self.taker = taker

    def hand_named(self, hand):
        """The hand of this name; refuse a text that names none."""
        check_hand(hand)
        return self.giver if hand == "giver" else self.taker

    def hand_in(self, order):
        """Hand an order in to the giver, and tell its number."""
        return self.giver.add(order)

    def step(self, hand):
        """Step the hand: True where it touched a cell, else False."""
        return self.hand_named(hand).step()

    def fall(self, hand):
        """Let the hand fall: another one comes up with what it has for good."""
        check_hand(hand)
        if hand == "giver":
            self.place_giver(self.giver.orders())
        else:
            self.place_taker(self.taker.book())

    def stage(self, hand):
        """The stage at which the hand is."""
        return self.hand_named(hand).stage()

    def turn(self, hand):
        """The hand's turn, None until it knows it."""
        return self.hand_named(hand).turn()

    def still(self, hand):
        """Whether the hand's steps change nothing."""
        return self.hand_named(hand).still()

    def book(self):
        """All orders that were taken."""
        return self.taker.book()

    def orders(self):
        """All orders that were handed in."""
        return self.giver.orders()

    def quiet(self):
        """Whether both hands are still."""
        return self.giver.still() and self.taker.still()

    def trail(self):
        """All touches in order, each as a tuple (hand, deed, cell, value)."""
        return list(self.kept_trail)

    def cells(self):
        """The numbers of all cells of the board."""
        return self.board.all_cells()


def lane_with(size, orders):
    """A new lane to which these orders have been handed in."""
    lane = Lane(size)
    for order in orders:
        lane.hand_in(order)
    return lane


def follows(lane, touch):
    """Step the hand that the touch names, and tell whether it made just this touch."""
    hand, deed, cell, value = touch
    if hand != "giver" and hand != "taker":
        return False
    return lane.step(hand) and lane.board.last_touch() == (deed, cell, value)
