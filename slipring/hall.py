"""The hall: a house and a shop, and between them two rings, one for orders and one for answers."""

from slipring.errors import NoHand, NoWaiting
from slipring.lane import Lane

SHELVES = 4
OUT_HANDS = {"asker": "giver", "doer": "taker"}
BACK_HANDS = {"teller": "giver", "hearer": "taker"}
SIDES = {"house": ("asker", "hearer"), "shop": ("doer", "teller")}


def pairs(answers):
    """The answers as pairs."""
    return [tuple(answer) for answer in answers]


class Hall:
    """Orders go out on the one lane, answers back on the other one."""

    def __init__(self, out_size, back_size):
        self.out = Lane(out_size)
        self.back = Lane(back_size)
        self.sums = [0] * SHELVES
        # The numbers of the orders done, as they were done.
        self.finished = {}

    def lane_and_name(self, hand):
        """The lane on which the hand works, and its name there; refuse what is none of the four."""
        if hand in OUT_HANDS:
            return (self.out, OUT_HANDS[hand])
        if hand in BACK_HANDS:
            return (self.back, BACK_HANDS[hand])
        raise NoHand("a hand is asker, doer, teller or hearer")

    def ask(self, order):
        """Hand an order in to the asker, and tell its number."""
        return self.out.hand_in(order)

    def step(self, hand):
        """Step the hand: True where it touched a cell, else False."""
        lane, name = self.lane_and_name(hand)
        return lane.step(name)

    def stage(self, hand):
        """The stage at which the hand is."""
        lane, name = self.lane_and_name(hand)
        return lane.stage(name)

    def fall(self, side):
        """Let both hands of the side fall."""
        if side not in SIDES:
            raise NoHand("a side is house or shop")
        for hand in SIDES[side]:
            lane, name = self.lane_and_name(hand)
            lane.fall(name)

    def waiting(self):
        """The numbers of the orders that were taken and not done, in their turn."""
        return [number for number in range(len(self.out.book())) if number not in self.finished]

    def do(self, place):
        """Do the order at this place of those that wait, and tell its number."""
        numbers = self.waiting()
        if place not in range(len(numbers)):
            raise NoWaiting("no order waits at this place")
        number = numbers[place]
        order = self.out.book()[number]
        shelf = order[0] % SHELVES
        self.sums[shelf] += sum(order[1:])
        self.finished[number] = True
        self.back.hand_in([number, self.sums[shelf]])
        return number

    def shelves(self):
        """What each of the four shelves has."""
        return list(self.sums)

    def done(self):
        """The numbers of the orders done, as they were done."""
        return list(self.finished)

    def told(self):
        """The answers that the shop gave."""
        return pairs(self.back.orders())

    def heard(self):
        """The answers that the house has heard."""
        return pairs(self.back.book())

    def quiet(self):
        """Whether nothing waits and all four hands are still."""
        return len(self.waiting()) == 0 and self.out.quiet() and self.back.quiet()

    def out_cells(self):
        """The cells of the board on which orders go out."""
        return self.out.cells()

    def back_cells(self):
        """The cells of the board on which answers come back."""
        return self.back.cells()
