"""What the tests of several modules have in common."""

import copy
import functools
import inspect
import random
import unittest

from slipring.board import Board, board_of
from slipring.errors import BadOrder
from slipring.fronts import marks_of
from slipring.lane import Lane

SIZES = range(2, 9)
HUGE = 10 ** 60 - 1
BAD_SIZES = [1, 0, -1, -2, -8, 9, 10, 16, 100, HUGE, -HUGE]
BAD_MARKS = [-1, -2, -4, 4, 5, 8, HUGE, -HUGE]
BAD_HANDS = ["", " ", "Giver", "TAKER", "giver ", " taker", "give", "takers", "giver\n", "asker", "house"]


def bad_turns(size):
    return [-1, -2, -size, -2 * size, 2 * size, 2 * size + 1, 4 * size, HUGE, -HUGE]


def bad_orders(size):
    """Lists that are no orders: without parts, and with too many."""
    return [[], [0] * (size + 1), list(range(size + 2)), [HUGE] * 30]


def board_at(size, taker, giver, slips=()):
    """A board at whose marks the hands have these turns; a slip is (turn, number, left, thing)."""
    cells = Board(size).all_cells()
    for place, mark in enumerate(marks_of(size, taker, giver)):
        cells[4 * place] = mark
    for turn, number, left, thing in slips:
        place = turn % size
        cells[4 * place + 1:4 * place + 4] = [number, left, thing]
    return board_of(cells)


def lane_of(size, orders):
    """A new lane to which these orders have been handed in."""
    lane = Lane(size)
    for order in orders:
        lane.hand_in(order)
    return lane


def step_to(hand, stage, least=0):
    """Step the hand until it is at the stage, so many times at least."""
    for many in range(200):
        if many >= least and hand.stage() == stage:
            return
        hand.step()
    raise AssertionError(f"the hand never comes to {stage}")

# How a number is written, of sixty figures at most.
NUMBER_FORM = r"(?:0|-?[1-9][0-9]{0,59})"
HANDS = ["giver", "taker"]
COMING_UP = ["rouse", "clear", "mute", "marks"]
WAITING = ["look", "wish", "again", "sleep", "hush", "unwish"]
GIVER_STAGES = COMING_UP + ["told", "lacks"] + WAITING + ["number", "left", "thing", "mark", "card", "ring"]
TAKER_STAGES = COMING_UP + WAITING + ["number", "left", "thing", "free", "card", "ring"]


def frozen(thing):
    """Lists as tuples, all the way down."""
    return tuple(frozen(one) for one in thing) if isinstance(thing, (list, tuple)) else thing


def thawed(thing):
    """Tuples as lists, all the way down."""
    return [thawed(one) for one in thing] if isinstance(thing, (list, tuple)) else thing


def slips_of(orders):
    """All slips of the orders, as they are given: (number, left, thing)."""
    return [
        (number, len(order) - 1 - part, thing)
        for number, order in enumerate(orders) for part, thing in enumerate(order)
    ]


def turn_of_bits(bits):
    """The turn by walking round twice: at each turn the bit of its place is turned over."""
    size = len(bits)
    row = [1] * size
    for turn in range(2 * size):
        if row == list(bits):
            return turn
        row[turn % size] = turn // size
    raise AssertionError("a crooked row")


class Mind:
    """What a hand of the model has in mind; of the giver `given` is how many parts were given so far."""

    def __init__(self):
        self.stage, self.turn, self.marks, self.first = "rouse", None, [], None
        self.given, self.number, self.left, self.parts = 0, 0, 0, []


class Model:
    """A lane told a second time, after the tables of the document. Hands are 0, the giver, and 1, the taker."""

    def __init__(self, size):
        self.size = size
        self.cells = [2, -1, 0, 0] * size + [-1, -1, 0, 0]
        self.orders, self.book, self.trail = [], [], []
        self.minds = [Mind(), Mind()]

    def fall(self, own):
        self.minds[own] = Mind()

    def rests(self):
        return self.minds[0].stage == "look" and self.minds[0].given == sum(map(len, self.orders))

    def still(self, own):
        sleeps = self.minds[own].stage == "sleep" and self.cells[4 * self.size + 2 + own] == 0
        return sleeps or (own == 0 and self.rests())

    def quiet(self):
        return self.still(0) and self.still(1)

    def full(self):
        """How many places are full."""
        return sum(self.cells[4 * place] % 2 for place in range(self.size))

    def wanted(self, own):
        """The mark at which the hand may give, or take, at its turn."""
        lap = self.minds[own].turn // self.size
        return [2 * (1 - lap), 2 * lap + 1][own]

    def plan(self, own):
        """What the hand's next step does: (deed, cell, number to write), or None."""
        mind, end = self.minds[own], 4 * self.size
        stage = mind.stage
        alike = {
            "rouse": ("write", end + 3 - own, 1), "clear": ("write", end + own, -1),
            "mute": ("write", end + 2 + own, 0), "marks": ("read", 4 * len(mind.marks), None),
            "wish": ("write", end + own, mind.turn), "sleep": ("read", end + 2 + own, None),
            "hush": ("write", end + 2 + own, 0), "unwish": ("write", end + own, -1),
            "card": ("read", end + 1 - own, None), "ring": ("write", end + 3 - own, 1),
        }
        if stage in alike:
            return alike[stage]
        here = 4 * (mind.turn % self.size)
        if stage in ("look", "again"):
            return None if own == 0 and self.rests() else ("read", here, None)
        if stage in ("told", "lacks"):
            return ("read", 4 * ((mind.turn - 1) % self.size) + (1 if stage == "told" else 2), None)
        if stage == "mark":
            return ("write", here, 2 * (mind.turn // self.size) + 1)
        if stage == "free":
            return ("write", 4 * (mind.first % self.size), 2 * (mind.first // self.size))
        at = ["number", "left", "thing"].index(stage)
        if own == 1:
            return ("read", here + 1 + at, None)
        return ("write", here + 1 + at, slips_of(self.orders)[mind.given][at])

    def step(self, own):
        """The touch of the hand's step, (hand, deed, cell, value), or None."""
        plan = self.plan(own)
        if plan is None:
            return None
        deed, cell, number = plan
        if deed == "write":
            self.cells[cell] = number
        self.trail.append((HANDS[own], deed, cell, self.cells[cell]))
        self.move(own, self.cells[cell])
        return self.trail[-1]

    def move(self, own, value):
        """Go on to the stage behind a touch of this value."""
        mind = self.minds[own]
        then = {
            "rouse": "clear", "clear": "mute", "mute": "marks", "told": "lacks", "lacks": "look",
            "wish": "again", "hush": "unwish", "unwish": "look", "number": "left", "left": "thing", "mark": "card",
            "free": "card",
        }
        stage = mind.stage
        mind.stage = then.get(stage, stage)
        if stage == "marks":
            self.move_marks(own, value)
        elif stage == "told":
            mind.number = value
        elif stage == "lacks":
            slips = [slip[:2] for slip in slips_of(self.orders)]
            mind.given = 0 if mind.number == -1 else slips.index((mind.number, value)) + 1
        elif stage == "look":
            mind.stage = "number" if value == self.wanted(own) else "wish"
        elif stage == "again":
            mind.stage = "unwish" if value == self.wanted(own) else "sleep"
        elif stage == "sleep":
            mind.stage = "hush" if value == 1 else "sleep"
        elif stage in ("card", "ring"):
            self.move_on(own, stage, value)
        elif stage in ("number", "left") and own == 1:
            setattr(mind, stage, value)
        elif stage == "thing":
            self.move_thing(own, value)

    def move_marks(self, own, value):
        mind = self.minds[own]
        mind.marks = mind.marks + [value]
        if len(mind.marks) == self.size:
            bits = [[mark // 2, 1 if mark in (1, 2) else 0][own] for mark in mind.marks]
            mind.turn = mind.first = turn_of_bits(bits)
            mind.marks, mind.stage = [], ["told", "look"][own]

    def move_thing(self, own, value):
        mind = self.minds[own]
        if own == 0:
            mind.stage = "mark"
            return
        mind.parts = mind.parts + [value]
        if mind.left > 0:
            mind.turn, mind.stage = (mind.turn + 1) % (2 * self.size), "look"
            return
        if mind.number == len(self.book):
            self.book.append(mind.parts)
        mind.parts, mind.stage = [], "free"

    def move_on(self, own, stage, value):
        mind, round_twice = self.minds[own], 2 * self.size
        served = mind.turn if own == 0 else (mind.first + self.size) % round_twice
        if stage == "card" and value == served:
            mind.stage = "ring"
        elif own == 0:
            mind.turn, mind.given, mind.stage = (mind.turn + 1) % round_twice, mind.given + 1, "look"
        else:
            mind.stage = "look" if mind.first == mind.turn else "free"
            mind.first = (mind.first + 1) % round_twice
            if mind.stage == "look":
                mind.turn = mind.first

    def part_told(self):
        mind = self.minds[0]
        if mind.stage in COMING_UP + ["told"]:
            return (0, 0)
        if mind.stage == "lacks":
            return (mind.number, 0)
        order, part = 0, mind.given
        while order < len(self.orders) and part >= len(self.orders[order]):
            order, part = order + 1, part - len(self.orders[order])
        return (order, part)

    def stand(self):
        """The stand, as point 25 tells it."""
        giver, taker = self.minds
        number = taker.number if taker.stage in ("left", "thing") else 0
        left = taker.left if taker.stage == "thing" else 0
        return frozen([
            self.cells,
            [giver.stage, giver.turn, giver.marks, *self.part_told()],
            [taker.stage, taker.turn, taker.marks, taker.first, number, left, taker.parts],
            self.orders,
            self.book,
        ])


def model_at(stand):
    """A model that stands so, of a stand to which some row of steps leads."""
    cells, giver, taker, orders, book = thawed(stand)
    model = Model(len(cells) // 4 - 1)
    model.cells, model.orders, model.book = cells, orders, book
    mind = model.minds[0]
    mind.stage, mind.turn, mind.marks, order, part = giver
    mind.number = order
    if mind.stage != "lacks":
        mind.given = sum(len(one) for one in orders[:order]) + part
    mind = model.minds[1]
    mind.stage, mind.turn, mind.marks, mind.first, mind.number, mind.left, mind.parts = taker
    return model


def model_with(size, orders):
    """A new model with these orders."""
    model = Model(size)
    model.orders = thawed(orders)
    return model


def is_stand(stand):
    """Point 26, a second time, told of one clause behind the other."""
    cells, (stage, turn, marks, order, part), taker, orders, book = stand
    sizes = [size for size in SIZES if 4 * size + 4 == len(cells)]
    if not sizes:
        return False
    size, turns = sizes[0], range(2 * sizes[0])
    his_stage, his_turn, his_marks, first, number, left, parts = taker
    up, his_up = stage in COMING_UP, his_stage in COMING_UP
    there = [(at, one) for at, order_there in enumerate(orders) for one in range(len(order_there))]
    if up or stage == "told":
        parts_there = [(0, 0)]
    elif stage == "lacks":
        parts_there = [(at, 0) for at in range(-1, len(orders))]
    else:
        parts_there = there + [(len(orders), 0)] * (stage in WAITING)
    clauses = [
        all(cells[4 * place] in range(4) for place in range(size)),
        all(card == -1 or card in turns for card in cells[4 * size:4 * size + 2]),
        all(bell in (0, 1) for bell in cells[4 * size + 2:]),
        all(1 <= len(order_there) <= size for order_there in orders + book),
        stage in GIVER_STAGES and his_stage in TAKER_STAGES,
        turn is None if up else turn in turns,
        his_turn is None and first is None if his_up else his_turn in turns and first in turns,
        all(mark in range(4) for mark in marks + his_marks),
        len(marks) < size if stage == "marks" else marks == (),
        len(his_marks) < size if his_stage == "marks" else his_marks == (),
        (order, part) in parts_there,
        number == 0 or his_stage in ("left", "thing"),
        left == 0 or (left > 0 and his_stage == "thing"),
    ]
    if not all(clauses):
        return False
    if his_up:
        return parts == ()
    ahead = [(first + many) % (2 * size) for many in range(size)]
    if his_stage in ("free", "card", "ring"):
        return parts == () and his_turn in ahead
    return len(parts) < size and ahead[len(parts)] == his_turn


@functools.cache
def all_stages():
    """Stands to which rows of steps lead, of sizes 2, 3 and 8, at each pair of stages that comes."""
    chance = random.Random(25)
    told = {}
    for size in (2, 3, 8):
        for life in range(24):
            model, leaning = Model(size), [0.3, 0.5, 0.7][life % 3]
            for _ in range(500):
                if chance.random() < 0.03:
                    model.fall(chance.randrange(2))
                if chance.random() < 0.04:
                    model.orders.append([chance.randrange(-9, 9) for _ in range(chance.randrange(1, size + 1))])
                model.step(int(chance.random() < leaning))
                told.setdefault((size, model.minds[0].stage, model.minds[1].stage), model.stand())
    return told


class Watched:
    """A lane, and a model of it that does all that the lane does; at each moment the two are compared."""

    def __init__(self, test, lane, model):
        self.test, self.lane, self.model = test, lane, model
        self.check()

    def hand_in(self, order):
        self.model.orders.append(list(order))
        self.test.same_number(self.lane.hand_in(order), len(self.model.orders) - 1)
        self.check()

    def fall(self, own):
        self.model.fall(own)
        self.test.assertIsNone(self.lane.fall(HANDS[own]))
        self.check()

    def step(self, own):
        cells = self.lane.cells()
        touch = self.model.step(own)
        self.test.assertIs(self.lane.step(HANDS[own]), touch is not None)
        if touch is not None:
            self.test.assertEqual(self.lane.board.last_touch(), touch[1:])
            if touch[1] == "write" and touch[2] < 4 * self.model.size:
                self.test.assertEqual(cells[touch[2] // 4 * 4] % 2, own, "a place that is the other's")
        self.check()

    def check(self):
        test, lane, model = self.test, self.lane, self.model
        test.assertEqual(lane.cells(), model.cells)
        for own, hand in enumerate(HANDS):
            mind = model.minds[own]
            test.assertEqual((lane.stage(hand), lane.turn(hand)), (mind.stage, mind.turn))
            test.assertIs(lane.still(hand), model.still(own))
            self.check_sleeper(own)
        test.assertIs(lane.quiet(), model.quiet())
        book, orders = lane.book(), lane.orders()
        test.assertEqual((book, orders), (model.book, model.orders))
        test.assertEqual(book, orders[:len(book)])
        if lane.quiet():
            test.assertEqual(book, orders)

    def check_sleeper(self, own):
        """No hand sleeps over what it may do, but while the other one is about to ring it."""
        lane, size = self.lane, self.model.size
        if lane.stage(HANDS[own]) == "sleep" and lane.still(HANDS[own]):
            turn = lane.turn(HANDS[own])
            wanted = [[2, 0], [1, 3]][own][turn // size]
            if lane.cells()[4 * (turn % size)] == wanted:
                self.test.assertIn(lane.stage(HANDS[1 - own]), ["card", "ring", "rouse"])

    def settle(self):
        """Step both by turns, no more than point 3 says: then all orders are in the book, and all is quiet."""
        missing = sum(len(order) for order in self.model.orders[len(self.model.book):])
        rounds = 60 * (missing + self.model.full()) + 100
        while rounds > 0 and not self.lane.quiet():
            self.step(0)
            self.step(1)
            rounds -= 1
        self.test.assertEqual(self.lane.book(), self.lane.orders())
        self.test.assertIs(self.lane.quiet(), True)
        # A quiet lane stays so, as its steps change nothing.
        for _ in range(3):
            self.step(0)
            self.step(1)
        self.test.assertIs(self.lane.quiet(), True)


def woven(chance, watched, many, falls, orders, leaning=0.5):
    """Do so many steps, with falls and orders between as chance has it."""
    size = watched.model.size
    for _ in range(many):
        if chance.random() < falls:
            watched.fall(chance.randrange(2))
        if chance.random() < orders and len(watched.model.orders) < 300:
            parts = chance.randrange(1, size + 1)
            watched.hand_in([chance.choice([-HUGE, HUGE, -1, 0, chance.randrange(100)]) for _ in range(parts)])
        watched.step(int(chance.random() < leaning))


class RingTest(unittest.TestCase):
    def same_number(self, told, asked):
        self.assertIs(type(told), int)
        self.assertEqual(told, asked)

    def refused(self, error, deed, *things):
        """The very error is told, and what was handed in is left as it was."""
        copies = [copy.deepcopy(thing) if isinstance(thing, list) else thing for thing in things]
        with self.assertRaises(error) as caught:
            deed(*things)
        self.assertIs(type(caught.exception), error, (deed.__name__, things))
        self.assertEqual(list(things), copies)

    def same_arguments(self, holder, asked):
        for name, arguments in asked.items():
            there = inspect.signature(getattr(holder, name)).parameters
            self.assertEqual([one for one in there if one != "self"], arguments, name)

    def refuses_bad_orders(self, hand):
        """No such hand is made where one of its orders is none, and the board is left as it was."""
        for size in SIZES:
            board = Board(size)
            good = [[1], [2] * size, [-3, HUGE]]
            for bad in bad_orders(size):
                for place in range(len(good) + 1):
                    self.refused(BadOrder, hand, board, good[:place] + [bad] + good[place:])
                self.refused(BadOrder, hand, board, [bad, bad])
            self.assertEqual((board.touches(), board.all_cells()), (0, Board(size).all_cells()))

    def walks(self, board, hand, rows):
        """The hand steps through the rows (stage, deed, cell, value, stage then), and touches nothing else."""
        for row in rows:
            stage, deed, cell, value, then = row
            cells, touches = board.all_cells(), board.touches()
            self.assertEqual(hand.stage(), stage, row)
            self.assertIs(hand.step(), True, row)
            self.assertEqual(board.last_touch(), (deed, cell, value), row)
            self.assertEqual(board.touches(), touches + 1, row)
            if deed == "write":
                cells[cell] = value
            self.assertEqual(board.all_cells(), cells, row)
            self.assertEqual(hand.stage(), then, row)
