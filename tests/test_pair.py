"""Points 3, 10 to 19: the two hands on one board, however their steps are woven and whenever one falls."""

import random

from slipring.board import Board
from slipring.fronts import sound_marks
from slipring.giver import Giver
from slipring.taker import Taker
from tests.helper import HUGE, RingTest, slips_of, turn_of_bits


# The document's hands once more, told as lives from top to bottom: each yield is one step,
# (stage, deed, cell, number to write), and is sent what was read.

def coming_up(size, own):
    yield "rouse", "write", 4 * size + 2 + 1 - own, 1
    yield "clear", "write", 4 * size + own, -1
    yield "mute", "write", 4 * size + 2 + own, 0
    marks = []
    for place in range(size):
        marks.append((yield "marks", "read", 4 * place, None))
    return marks


def waiting(size, own, turn, wanted):
    yield "wish", "write", 4 * size + own, turn
    mark = yield "again", "read", 4 * (turn % size), None
    if mark != wanted:
        while (yield "sleep", "read", 4 * size + 2 + own, None) == 0:
            pass
        yield "hush", "write", 4 * size + 2 + own, 0
    yield "unwish", "write", 4 * size + own, -1


def giver_life(size, orders, known):
    """Orders is the list to which orders are added meanwhile; what the hand knows is put into known."""
    marks = yield from coming_up(size, 0)
    turn = known["turn"] = turn_of_bits([mark // 2 for mark in marks])
    ahead = (turn - 1) % size
    number = yield "told", "read", 4 * ahead + 1, None
    left = yield "lacks", "read", 4 * ahead + 2, None
    slips = [slip[:2] for slip in slips_of(orders)]
    many = 0 if number == -1 else slips.index((number, left)) + 1
    while True:
        while many == len(slips_of(orders)):
            yield "look", "rest", None, None
        cell, lap = 4 * (turn % size), turn // size
        if (yield "look", "read", cell, None) != 2 * (1 - lap):
            yield from waiting(size, 0, turn, 2 * (1 - lap))
            continue
        number, left, thing = slips_of(orders)[many]
        yield "number", "write", cell + 1, number
        yield "left", "write", cell + 2, left
        yield "thing", "write", cell + 3, thing
        yield "mark", "write", cell, 2 * lap + 1
        if (yield "card", "read", 4 * size + 1, None) == turn:
            yield "ring", "write", 4 * size + 3, 1
        many += 1
        turn = known["turn"] = (turn + 1) % (2 * size)


def taker_life(size, book, known):
    marks = yield from coming_up(size, 1)
    first = turn = turn_of_bits([1 if mark in (1, 2) else 0 for mark in marks])
    while True:
        parts, left = [], 1
        known["first"] = known["turn"] = turn = first
        while left > 0:
            cell, full = 4 * (turn % size), 2 * (turn // size) + 1
            while (yield "look", "read", cell, None) != full:
                yield from waiting(size, 1, turn, full)
            number = yield "number", "read", cell + 1, None
            left = yield "left", "read", cell + 2, None
            parts.append((yield "thing", "read", cell + 3, None))
            turn = (turn + 1) % (2 * size)
            if left > 0:
                known["turn"] = turn
        if number == len(book):
            book.append(parts)
        while first != turn:
            yield "free", "write", 4 * (first % size), 2 * (first // size)
            if (yield "card", "read", 4 * size, None) == (first + size) % (2 * size):
                yield "ring", "write", 4 * size + 2, 1
            first = known["first"] = (first + 1) % (2 * size)


class Life:
    """A hand of the kind above, with the step that it is about to make."""

    def __init__(self, life, cells, own):
        self.life, self.cells, self.own = life, cells, own
        self.next = life.send(None)

    def look(self):
        """At rest it is asked anew whether there is something to give."""
        if self.next[1] == "rest":
            self.next = self.life.send(None)
        return self.next

    def step(self):
        stage, deed, cell, number = self.look()
        if deed == "rest":
            return None
        if deed == "write":
            self.cells[cell] = number
        value = self.cells[cell]
        self.next = self.life.send(None if deed == "write" else value)
        return (deed, cell, value)

    def still(self):
        stage, deed, cell, number = self.look()
        return deed == "rest" or (stage == "sleep" and self.cells[cell] == 0)


class Pair:
    """Both hands of the program on one board, and both lives beside them on cells of their own."""

    def __init__(self, test, size):
        self.test, self.size = test, size
        self.board = Board(size)
        self.cells = self.board.all_cells()
        self.orders, self.book = [], []
        self.hands, self.lives, self.known = [None, None], [None, None], [None, None]
        self.make_giver([])
        self.make_taker([])

    def make_giver(self, orders):
        self.hands[0] = Giver(self.board, orders)
        self.known[0] = {"turn": None}
        self.lives[0] = Life(giver_life(self.size, self.orders, self.known[0]), self.cells, 0)

    def make_taker(self, book):
        self.hands[1] = Taker(self.board, book)
        self.known[1] = {"turn": None, "first": None}
        self.lives[1] = Life(taker_life(self.size, self.book, self.known[1]), self.cells, 1)

    def fall(self, own):
        if own == 0:
            self.make_giver(self.hands[0].orders())
        else:
            self.make_taker(self.hands[1].book())
        self.check()

    def add(self, order):
        self.orders.append(list(order))
        self.test.assertEqual(self.hands[0].add(order), len(self.orders) - 1)
        self.check()

    def step(self, own):
        touches, last = self.board.touches(), self.board.last_touch()
        marks = self.cells[0:4 * self.size:4]
        touch = self.lives[own].step()
        self.test.assertIs(self.hands[own].step(), touch is not None)
        self.test.assertEqual(self.board.last_touch(), last if touch is None else touch)
        self.test.assertEqual(self.board.touches(), touches + (touch is not None))
        if touch is not None and touch[0] == "write" and touch[1] < 4 * self.size:
            self.test.assertEqual(marks[touch[1] // 4] % 2, own, "a place that is the other's")
        self.check()

    def check(self):
        test, (giver, taker) = self.test, self.hands
        test.assertEqual(self.board.all_cells(), self.cells)
        for hand, life, known in zip(self.hands, self.lives, self.known):
            test.assertEqual(hand.stage(), life.look()[0])
            test.assertEqual(hand.turn(), known["turn"])
            test.assertIs(hand.still(), life.still())
        test.assertEqual(taker.first(), self.known[1]["first"])
        test.assertEqual(giver.orders(), self.orders)
        test.assertEqual(taker.book(), self.book)
        test.assertEqual(self.book, self.orders[:len(self.book)])
        test.assertTrue(sound_marks(self.cells[0:4 * self.size:4]))
        if giver.still() and taker.still():
            test.assertEqual(self.book, self.orders)

    def settle(self):
        """Step both by turns, as often as the promise says: then all orders are in the book."""
        parts = sum(len(order) for order in self.orders[len(self.book):])
        full = sum(mark % 2 for mark in self.cells[0:4 * self.size:4])
        for _ in range(60 * (parts + full) + 100):
            self.step(0)
            self.step(1)
        self.test.assertEqual(self.hands[1].book(), self.orders)
        self.test.assertTrue(self.hands[0].still() and self.hands[1].still())


class WovenTest(RingTest):
    def test_woven_by_turns(self):
        for size in (2, 3, 8):
            pair = Pair(self, size)
            for number in range(2 * size + 1):
                pair.add([10 * number + part for part in range(1 + number % size)])
            pair.settle()

    def test_one_hand_far_ahead_of_the_other(self):
        for size in (2, 3, 8):
            for own in (0, 1):
                pair = Pair(self, size)
                for number in range(7):
                    pair.add([number] * (1 + number % size))
                for _ in range(12):
                    for many in (60, 61):
                        for _ in range(many):
                            pair.step(own)
                        own = 1 - own
                pair.settle()

    def test_a_fall_of_each_hand_at_each_moment(self):
        for size in (2, 3):
            for own in (0, 1):
                for moment in range(0, 190):
                    pair = Pair(self, size)
                    for order in ([1] * size, [-2], [HUGE, 3], [4]):
                        pair.add(order)
                    for many in range(190):
                        if many == moment:
                            pair.fall(own)
                        pair.step(many % 2)
                    self.assertGreater(len(pair.book), 0)

    def test_any_row_of_steps_falls_and_orders(self):
        chance = random.Random(20)
        for size in range(2, 9):
            for falls in (0.0, 0.01, 0.05):
                for leaning in (0.2, 0.5, 0.8):
                    pair = Pair(self, size)
                    for _ in range(600):
                        if chance.random() < falls:
                            pair.fall(int(chance.random() * 2))
                        if chance.random() < 0.03:
                            many = 1 + int(chance.random() * size)
                            pair.add([int(chance.random() * 100) - 50 for _ in range(many)])
                        pair.step(int(chance.random() < leaning))
                    pair.settle()

    def test_orders_handed_in_while_all_is_quiet(self):
        for size in (2, 5, 8):
            pair = Pair(self, size)
            for number in range(3 * size):
                pair.settle()
                pair.add([number] * (1 + number % size))
            pair.settle()


class LongBookTest(RingTest):
    def test_a_book_longer_than_the_orders_stays_as_it_is(self):
        for size in (2, 3, 8):
            board = Board(size)
            orders = [[1], [2] * size, [3, 4], [5]]
            giver, taker = Giver(board, orders), Taker(board, [[9]] * 6)
            for _ in range(300):
                giver.step()
                taker.step()
            self.assertEqual(taker.book(), [[9]] * 6)
            self.assertTrue(giver.still() and taker.still())
            parts = (4 + size) % (2 * size)
            self.assertEqual((giver.turn(), taker.turn(), taker.first()), (parts, parts, parts))
            giver.add([6])
            giver.add([7])
            giver.add([8, 8])
            for _ in range(300):
                giver.step()
                taker.step()
            self.assertEqual(taker.book(), [[9]] * 6 + [[8, 8]])
