"""The giver: lays orders onto the ring, part by part."""

from slipring.board import NO_ORDER, left_cell, mark_cell, number_cell, thing_cell
from slipring.fronts import giver_turn
from slipring.hand import Hand
from slipring.marks import full_mark, mark_to_give
from slipring.orders import order_of, orders_of, orders_told
from slipring.turns import onward, place_of


def at_told(giver):
    """Read of which order the slip ahead of its turn is."""
    giver.number = giver.board.read(number_cell(giver.place_ahead()))
    return "lacks"


def at_lacks(giver):
    """Read how many parts come behind that slip."""
    giver.left = giver.board.read(left_cell(giver.place_ahead()))
    return "look"


def at_number(giver):
    """Write the order's number."""
    giver.board.write(number_cell(giver.place()), giver.next_order())
    return "left"


def at_left(giver):
    """Write how many parts come behind this one."""
    giver.board.write(left_cell(giver.place()), giver.next_left())
    return "thing"


def at_thing(giver):
    """Write the part."""
    order = giver.kept[giver.next_order()]
    giver.board.write(thing_cell(giver.place()), order[giver.next_part()])
    return "mark"


def at_mark(giver):
    """Write the full mark, from which on the place is the taker's."""
    giver.board.write(mark_cell(giver.place()), full_mark(giver.board.size, giver.here))
    return "card"


DEEDS = {
    "told": at_told,
    "lacks": at_lacks,
    "number": at_number,
    "left": at_left,
    "thing": at_thing,
    "mark": at_mark,
}


class Giver(Hand):
    """A hand that has orders, and gives them one behind the other.

    Its number and its left are those of the slip ahead of its turn: by them it knows which part
    it gives next, whether it gave that slip itself or read it as it came up.
    """

    def __init__(self, board, orders):
        self.kept = orders_of(board.size, orders)
        Hand.__init__(self, board, "giver", "taker", "told")
        self.number = NO_ORDER
        self.left = 0

    def add(self, order):
        """Keep one more order, and tell its number."""
        self.kept.append(order_of(self.board.size, order))
        return len(self.kept) - 1

    def orders(self):
        """All orders that it has."""
        return orders_told(self.kept)

    def place_ahead(self):
        """The place of the turn ahead of its own."""
        size = self.board.size
        return place_of(size, onward(size, self.here, -1))

    def begins_order(self):
        """Whether the part that it gives next is the first one of an order."""
        return self.number == NO_ORDER or self.left <= 0

    def next_order(self):
        """The number of the order of which it gives a part next."""
        return self.number + 1 if self.begins_order() else self.number

    def next_part(self):
        """The place in that order of the part that it gives next."""
        return 0 if self.begins_order() else len(self.kept[self.number]) - self.left

    def next_left(self):
        """How many parts come behind the one that it gives next."""
        return len(self.kept[self.next_order()]) - self.next_part() - 1

    def has_part(self):
        """Whether it has that part; its order may not have been handed in yet."""
        order = self.next_order()
        return order in range(len(self.kept)) and self.next_part() in range(len(self.kept[order]))

    def order_and_part(self):
        """Which part it gives next, or has just given; at `lacks` the number that was read."""
        if self.stage_now == "lacks":
            return (self.number, 0)
        if not self.has_part():
            return (len(self.kept), 0)
        return (self.next_order(), self.next_part())

    def mind(self):
        """All that it has in mind: stage, turn, marks, order, part."""
        return (self.stage_now, self.here, tuple(self.marks_read)) + self.order_and_part()

    def recall(self, mind):
        """Have this in mind, and nothing else."""
        stage, turn, marks, order, part = mind
        self.recall_start(stage, turn, marks)
        if stage == "lacks":
            self.number, self.left = order, 0
        elif part == 0:
            # The slip ahead of an order's first part is the last one of the order ahead of it.
            self.number, self.left = order - 1, 0
        else:
            self.number, self.left = order, len(self.kept[order]) - part

    def know_turn(self, marks):
        """Know its turn by the marks of all places."""
        self.here = giver_turn(marks)

    def awaited_mark(self):
        """The mark at which it may give."""
        return mark_to_give(self.board.size, self.here)

    def turn_served(self):
        """The turn at which the taker may wait for what it gave."""
        return self.here

    def go_on(self):
        """Go onward by one turn, to the next part."""
        self.number, self.left = self.next_order(), self.next_left()
        self.here = onward(self.board.size, self.here, 1)
        return "look"

    def resting(self):
        """Whether it has nothing to give."""
        return self.stage_now == "look" and not self.has_part()

    def own_deed(self):
        """A step at a stage that the taker has not, or has otherwise."""
        deed = DEEDS[self.stage_now]
        return deed(self)
