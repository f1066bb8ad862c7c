"""The taker: takes orders off the ring, and puts them into its book."""

from slipring.board import left_cell, mark_cell, number_cell, thing_cell
from slipring.fronts import taker_turn
from slipring.hand import Hand
from slipring.marks import free_mark, full_mark
from slipring.orders import orders_of, orders_told
from slipring.turns import onward, place_of


def at_number(taker):
    """Read the order's number."""
    taker.number = taker.board.read(number_cell(taker.place()))
    return "left"


def at_left(taker):
    """Read how many parts come behind."""
    taker.left = taker.board.read(left_cell(taker.place()))
    return "thing"


def at_thing(taker):
    """Read the part: behind the last one of an order all its places are freed."""
    taker.parts.append(taker.board.read(thing_cell(taker.place())))
    if taker.left > 0:
        taker.here = onward(taker.board.size, taker.here, 1)
        return "look"
    taker.book_order()
    return "free"


def at_free(taker):
    """Write the free mark, from which on the place is the giver's."""
    size = taker.board.size
    place = place_of(size, taker.not_freed)
    taker.board.write(mark_cell(place), free_mark(size, taker.not_freed))
    return "card"


DEEDS = {
    "number": at_number,
    "left": at_left,
    "thing": at_thing,
    "free": at_free,
}


class Taker(Hand):
    """A hand that has a book of the orders that it took."""

    def __init__(self, board, book):
        self.taken = orders_of(board.size, book)
        Hand.__init__(self, board, "taker", "giver", "look")
        self.not_freed = None
        self.number = 0
        self.left = 0
        self.parts = []

    def book(self):
        """All orders that it took."""
        return orders_told(self.taken)

    def first(self):
        """The first turn that it has not freed, None until it knows its turn."""
        return self.not_freed

    def book_order(self):
        """Put the parts that it has read into the book, as one order."""
        # With another number the order stands there already: an elder fell while it freed it,
        # so what was read may be its end alone.
        if self.number == len(self.taken):
            self.taken.append(self.parts)
        self.parts = []

    def mind(self):
        """All that it has in mind: stage, turn, marks, first, number, left, parts."""
        # What it read last is told only while it is still asked: else stands that go on alike would be unlike.
        number = self.number if self.stage_now in ("left", "thing") else 0
        left = self.left if self.stage_now == "thing" else 0
        seen = (self.not_freed, number, left, tuple(self.parts))
        return (self.stage_now, self.here, tuple(self.marks_read)) + seen

    def recall(self, mind):
        """Have this in mind, and nothing else."""
        stage, turn, marks, first, number, left, parts = mind
        self.recall_start(stage, turn, marks)
        self.not_freed = first
        self.number = number
        self.left = left
        self.parts = list(parts)

    def know_turn(self, marks):
        """Know its turn by the marks of all places; nothing is read there yet."""
        self.here = taker_turn(marks)
        self.not_freed = self.here

    def awaited_mark(self):
        """The mark at which it may take."""
        return full_mark(self.board.size, self.here)

    def turn_served(self):
        """The turn at which the giver may wait for what it freed."""
        return onward(self.board.size, self.not_freed, self.board.size)

    def go_on(self):
        """Free the next turn, or look at it where its own turn is freed."""
        all_freed = self.not_freed == self.here
        self.not_freed = onward(self.board.size, self.not_freed, 1)
        if not all_freed:
            return "free"
        self.here = self.not_freed
        return "look"

    def resting(self):
        """A taker is never at rest: where nothing is to be taken it sleeps."""
        return False

    def own_deed(self):
        """A step at a stage that the giver has not, or has otherwise."""
        deed = DEEDS[self.stage_now]
        return deed(self)
