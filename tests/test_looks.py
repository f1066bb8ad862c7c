"""Points 21 to 24: whose a place is, slips, sound boards, trails that are good for some orders."""

import itertools
import random

from slipring import looks
from slipring.board import Board
from slipring.errors import BadCells, BadOrder, BadSize, NoCell, NotSound
from slipring.fronts import sound_marks
from slipring.lane import Lane
from slipring.looks import owner, slips, sound_board, trail_good
from tests.helper import (
    BAD_SIZES, HANDS, HUGE, SIZES, Model, RingTest, Watched, bad_orders, board_at, lane_of, model_with, woven,
)


def spoilt_cells(size):
    """Rows of cells that make no board."""
    new = Board(size).all_cells()
    rows = [[], [0] * 3, new[:-1], new + [0], [2, -1, 0, 0, -1, -1, 0, 0], [2, -1, 0, 0] * 9 + [-1, -1, 0, 0]]
    for cell, number in (
        (0, 4), (0, -1), (4 * size - 4, 4), (4 * size, -2), (4 * size, 2 * size), (4 * size + 1, 2 * size),
        (4 * size + 2, 2), (4 * size + 3, -1),
    ):
        rows.append(new[:cell] + [number] + new[cell + 1:])
    return rows


def turns_by_marks(marks):
    """The taker's and the giver's turn of sound marks, by trying all."""
    size = len(marks)
    for taker in range(2 * size):
        for ahead in range(size + 1):
            row = [2 if place >= taker % size else 0 for place in range(size)]
            if taker >= size:
                row = [2 - mark for mark in row]
            for turn in range(taker, taker + ahead):
                row[turn % size] = 1 if turn % (2 * size) < size else 3
            if row == marks:
                return taker, (taker + ahead) % (2 * size)
    return None


def slips_second(cells):
    """The slips of cells with sound marks, a second time."""
    size = len(cells) // 4 - 1
    taker, giver = turns_by_marks(cells[0:4 * size:4])
    row, turn = [], taker
    many = (giver - taker) % (2 * size)
    for turn in range(taker, taker + many):
        row.append(tuple(cells[4 * (turn % size) + 1:4 * (turn % size) + 4]))
    return row


def sound_second(cells):
    """Point 23, a second time."""
    if len(cells) not in [4 * size + 4 for size in SIZES]:
        return False
    size = len(cells) // 4 - 1
    marks = cells[0:4 * size:4]
    if not all(mark in (0, 1, 2, 3) for mark in marks):
        return False
    if not all(-1 <= card < 2 * size for card in cells[4 * size:4 * size + 2]):
        return False
    if not all(bell in (0, 1) for bell in cells[4 * size + 2:]) or turns_by_marks(marks) is None:
        return False
    row = slips_second(cells)
    if row == []:
        place = (turns_by_marks(marks)[1] - 1) % size
        return cells[4 * place + 1] >= -1 and cells[4 * place + 2] == 0
    for at, (number, left, thing) in enumerate(row):
        if number < 0 or left < 0 or left >= size:
            return False
        if at > 0 and row[at - 1][1] > 0 and (number, left) != (row[at - 1][0], row[at - 1][1] - 1):
            return False
        if at > 0 and row[at - 1][1] == 0 and number != row[at - 1][0] + 1:
            return False
    return True


def run(size, orders, steps, chance):
    """The trail of a new lane with these orders, stepped so often, none falling."""
    lane = lane_of(size, orders)
    leaning = chance.choice([0.3, 0.5, 0.7])
    for _ in range(steps):
        lane.step(HANDS[int(chance.random() < leaning)])
    return lane.trail()


def good_second(size, orders, trail):
    """Point 24, a second time."""
    model = model_with(size, orders)
    for touch in trail:
        if touch[0] not in HANDS or model.step(HANDS.index(touch[0])) != touch:
            return False
    return True


class NamesTest(RingTest):
    def test_names_and_arguments(self):
        asked = {
            "owner": ["cells", "place"], "slips": ["cells"], "sound_board": ["cells"],
            "trail_good": ["size", "orders", "trail"],
        }
        self.same_arguments(looks, asked)


class OwnerTest(RingTest):
    def test_each_mark_at_each_place(self):
        for size in SIZES:
            for place in range(size):
                for mark, asked in ((0, "giver"), (1, "taker"), (2, "giver"), (3, "taker")):
                    for others in range(4):
                        cells = [others, 5, -5, HUGE] * size + [-1, 0, 1, 0]
                        cells[4 * place] = mark
                        kept = list(cells)
                        self.assertEqual(owner(cells, place), asked)
                        self.assertEqual(cells, kept)

    def test_places_that_there_are_not(self):
        for size in SIZES:
            cells = Board(size).all_cells()
            for place in (-1, -size, size, size + 1, 4 * size, HUGE, -HUGE):
                self.refused(NoCell, owner, cells, place)

    def test_cells_that_make_no_board(self):
        for size in SIZES:
            for cells in spoilt_cells(size):
                for place in (0, size - 1, -1, size, HUGE):
                    self.refused(BadCells, owner, cells, place)


class SlipsTest(RingTest):
    def test_slips_of_each_two_turns(self):
        for size in SIZES:
            for taker in range(2 * size):
                for many in range(size + 1):
                    full = [(taker + at, 10 + at, -at, HUGE - at) for at in range(many)]
                    free = [(taker + at, 99, 99, 99) for at in range(many, size)]
                    cells = board_at(size, taker, (taker + many) % (2 * size), full + free).all_cells()
                    self.assertEqual(slips(cells), [slip[1:] for slip in full])

    def test_a_new_board_has_none(self):
        for size in SIZES:
            self.assertEqual(slips(Board(size).all_cells()), [])

    def test_they_are_tuples_and_the_askers_own(self):
        cells = board_at(3, 2, 4, [(2, 0, 1, 7), (3, 0, 0, 8)]).all_cells()
        kept = list(cells)
        one, other = slips(cells), slips(cells)
        self.assertEqual(one, [(0, 1, 7), (0, 0, 8)])
        self.assertEqual([type(one), type(one[0])], [list, tuple])
        self.assertIsNot(one, other)
        one.clear()
        self.assertEqual(other, [(0, 1, 7), (0, 0, 8)])
        self.assertEqual(cells, kept)

    def test_cells_that_make_no_board(self):
        for size in SIZES:
            for cells in spoilt_cells(size):
                self.refused(BadCells, slips, cells)

    def test_marks_that_are_not_sound(self):
        for size in (2, 3, 4):
            for marks in itertools.product(range(4), repeat=size):
                cells = Board(size).all_cells()
                cells[0:4 * size:4] = marks
                if sound_marks(list(marks)):
                    self.assertEqual(slips(cells), slips_second(cells))
                else:
                    self.refused(NotSound, slips, cells)

    def test_no_board_goes_ahead_of_not_sound(self):
        cells = [0, -1, 0, 0, 3, -1, 0, 0, 0, -1, 0, 0, -1, -1, 0, 0]
        self.refused(NotSound, slips, cells)
        self.refused(BadCells, slips, cells[:-1] + [2])
        self.refused(BadCells, slips, cells[:-1])


class SoundBoardTest(RingTest):
    def told(self, cells, asked):
        kept = list(cells)
        self.assertIs(sound_board(cells), asked, cells)
        self.assertEqual(cells, kept)

    def test_new_boards(self):
        for size in SIZES:
            self.told(Board(size).all_cells(), True)

    def test_cells_that_make_no_board(self):
        for size in SIZES:
            for cells in spoilt_cells(size):
                self.told(cells, False)
        for many in range(45):
            self.told([0] * many, many in [4 * size + 4 for size in SIZES])
            self.told([HUGE] * many, False)
            self.told([-1] * many, False)

    def test_all_rows_of_marks(self):
        for size in (2, 3, 4):
            for marks in itertools.product(range(4), repeat=size):
                cells = Board(size).all_cells()
                cells[0:4 * size:4] = marks
                self.told(cells, sound_second(cells))
                turns = turns_by_marks(list(marks))
                if turns is not None:
                    for at in range(size):
                        place = (turns[0] + at) % size
                        cells[4 * place + 1:4 * place + 3] = [at, 0]
                    self.told(cells, True)
                elif sound_marks(list(marks)):
                    self.fail(marks)

    def test_slips_one_behind_the_other(self):
        for size in SIZES:
            for taker in range(2 * size):
                for number, left, then, asked in (
                    (0, 0, (1, 0), True), (0, 0, (1, 1), True), (4, 0, (5, size - 1), True), (0, 1, (0, 0), True),
                    (7, size - 1, (7, size - 2), True),
                    (0, 0, (0, 0), False), (0, 0, (2, 0), False), (1, 0, (0, 0), False), (0, 1, (1, 0), False),
                    (0, 1, (0, 1), False), (1, 1, (0, 0), False), (0, 1, (1, 1), False), (0, 0, (0, 1), False),
                    (-1, 0, (0, 0), False), (-1, 1, (-1, 0), False), (0, -1, (1, 0), False), (0, -1, (0, -2), False),
                    (0, 0, (1, size), False), (0, size, (0, size - 1), False), (0, 0, (1, -1), False),
                    (0, 0, (1, HUGE), False), (-HUGE, 0, (1 - HUGE, 0), False), (HUGE, 0, (HUGE + 1, 0), True),
                ):
                    full = [(taker, number, left, -5), (taker + 1, *then, HUGE)]
                    cells = board_at(size, taker, (taker + 2) % (2 * size), full).all_cells()
                    self.told(cells, asked)
                    self.assertIs(sound_second(cells), asked)

    def test_one_slip(self):
        for size in SIZES:
            for taker in range(2 * size):
                for number in (-HUGE, -2, -1, 0, 1, 300, HUGE):
                    for left in (-HUGE, -1, 0, 1, size - 1, size, size + 1, HUGE):
                        cells = board_at(size, taker, (taker + 1) % (2 * size), [(taker, number, left, 3)]).all_cells()
                        self.told(cells, number >= 0 and 0 <= left < size)

    def test_no_slips(self):
        for size in SIZES:
            for turn in range(2 * size):
                for number in (-HUGE, -2, -1, 0, 1, 300, HUGE):
                    for left in (-HUGE, -1, 0, 1, size - 1, size, HUGE):
                        cells = board_at(size, turn, turn, [(turn - 1, number, left, 3)]).all_cells()
                        self.told(cells, number >= -1 and left == 0)

    def test_free_places_may_have_anything(self):
        for size in range(3, 9):
            for turn in range(2 * size):
                free = [(turn + at, -HUGE, HUGE, 5) for at in range(size - 1)]
                cells = board_at(size, turn, turn, free + [(turn - 1, 4, 0, 0)]).all_cells()
                self.told(cells, True)
                free = [(turn + at, -HUGE, -1, 5) for at in range(1, size)]
                cells = board_at(size, turn, (turn + 1) % (2 * size), free + [(turn, 4, 1, 0)]).all_cells()
                self.told(cells, True)

    def test_cards_and_bells_are_free(self):
        for size in SIZES:
            for card in range(-1, 2 * size):
                for bell in (0, 1):
                    self.told(Board(size).all_cells()[:-4] + [card, -1, bell, 1 - bell], True)
                    self.told(Board(size).all_cells()[:-4] + [-1, card, bell, bell], True)

    def test_boards_of_lanes_and_one_cell_changed_in_them(self):
        chance = random.Random(23)
        for size in SIZES:
            watched = Watched(self, Lane(size), Model(size))
            for _ in range(12):
                woven(chance, watched, 25, 0.02, 0.15)
                cells = watched.lane.cells()
                self.told(cells, True)
                for cell, number in enumerate(cells):
                    for other in (-2, -1, 0, 1, 2, 3, number + 1, number - 1, size, 2 * size):
                        row = list(cells)
                        row[cell] = other
                        self.told(row, sound_second(row))

    def test_two_places_exchanged(self):
        chance = random.Random(24)
        wrong = 0
        for size in SIZES:
            watched = Watched(self, Lane(size), Model(size))
            for _ in range(12):
                woven(chance, watched, 25, 0.02, 0.15, 0.4)
                for one, other in itertools.combinations(range(size), 2):
                    cells = watched.lane.cells()
                    first, second = cells[4 * one:4 * one + 4], cells[4 * other:4 * other + 4]
                    cells[4 * one:4 * one + 4], cells[4 * other:4 * other + 4] = second, first
                    asked = sound_second(cells)
                    wrong += not asked
                    self.told(cells, asked)
        self.assertGreater(wrong, 100)


class TrailGoodTest(RingTest):
    def told(self, size, orders, trail, asked):
        kept = ([list(order) for order in orders], list(trail))
        self.assertIs(trail_good(size, orders, trail), asked)
        self.assertEqual((orders, trail), kept)

    def test_trails_of_lanes(self):
        chance = random.Random(240)
        for size in SIZES:
            for orders in ([], [[5]], [[-HUGE] * size, [HUGE]], [[number] for number in range(20)]):
                trail = run(size, orders, 400, chance)
                self.told(size, orders, trail, True)
                for many in range(0, len(trail), 17):
                    self.told(size, orders, trail[:many], True)

    def test_no_touches_at_all(self):
        for size in SIZES:
            self.told(size, [], [], True)
            self.told(size, [[1], [2]], [], True)

    def test_orders_handed_in_meanwhile(self):
        lane = Lane(3)
        for number in range(10):
            for at in range(30):
                lane.step(HANDS[at % 2])
            lane.hand_in([number, 5])
        self.told(3, lane.orders(), lane.trail(), True)
        self.told(3, lane.orders()[:2], lane.trail(), False)

    def test_a_fall_is_not_good(self):
        for own in HANDS:
            lane = Lane(2)
            lane.hand_in([4])
            for at in range(20):
                lane.step(HANDS[at % 2])
            self.told(2, [[4]], lane.trail(), True)
            lane.fall(own)
            lane.step(own)
            self.told(2, [[4]], lane.trail(), False)

    def test_one_touch_changed(self):
        chance = random.Random(241)
        kinds = {"good": 0, "wrong": 0}
        for size, orders in ((2, [[1, 2], [3]]), (3, [[4], [5, 6, 7], [4]]), (8, [[0] * 8, [1]])):
            trail = run(size, orders, 160, chance)
            for at, (hand, deed, cell, value) in enumerate(trail):
                other = HANDS[1 - HANDS.index(hand)]
                turned = "write" if deed == "read" else "read"
                changed = [
                    (other, deed, cell, value), ("", deed, cell, value), ("giver ", deed, cell, value),
                    (hand, turned, cell, value), (hand, "", cell, value), (hand, "Read", cell, value),
                    (hand, deed, cell + 1, value), (hand, deed, cell - 1, value), (hand, deed, HUGE, value),
                    (hand, deed, cell, value + 1), (hand, deed, cell, value - 1), (hand, deed, cell, -HUGE),
                ]
                rows = [trail[:at] + [touch] + trail[at + 1:] for touch in changed]
                rows += [trail[:at] + trail[at + 1:], trail[:at + 1] + trail[at:]]
                if at + 1 < len(trail):
                    rows.append(trail[:at] + [trail[at + 1], trail[at]] + trail[at + 2:])
                for row in rows:
                    asked = good_second(size, orders, row)
                    kinds["good" if asked else "wrong"] += 1
                    self.told(size, orders, row, asked)
        # A few of these are good all the same: touches of two hands that do not meet may be exchanged.
        self.assertGreater(kinds["good"], 20)
        self.assertGreater(kinds["wrong"], 1000)

    def test_the_last_touch_alone_is_wrong(self):
        trail = run(2, [[1], [2]], 100, random.Random(5))
        self.told(2, [[1], [2]], trail, True)
        self.told(2, [[1], [2]], trail + [("giver", "read", 0, 9)], False)
        self.told(2, [[1], [2]], trail + [("nobody", "read", 0, 0)], False)

    def test_a_giver_at_rest_touches_nothing(self):
        lane = Lane(2)
        for _ in range(7):
            lane.step("giver")
        self.told(2, [], lane.trail(), True)
        self.told(2, [], lane.trail() + [("giver", "read", 6, 0)], False)
        self.told(2, [], lane.trail() + [("giver", "read", 0, 2)], False)
        self.told(2, [[1]], lane.trail() + [("giver", "read", 0, 2)], True)

    def test_other_orders(self):
        chance = random.Random(242)
        orders = [[1, 2], [3], [4, 5]]
        trail = run(3, orders, 400, chance)
        self.told(3, orders, trail, True)
        for other in (
            [], [[1, 2]], [[1, 2], [3]], [[3], [1, 2], [4, 5]], [[1, 2], [3], [4, 6]], [[1], [2], [3], [4, 5]],
            [[1, 2, 3], [4, 5]],
        ):
            self.told(3, other, trail, False)
        # A giver that rests touches nothing, so of a further order nothing is seen.
        self.told(3, orders + [[6]], trail, True)
        # Before the first part lies there all orders look alike.
        self.told(3, [[9]], trail[:8], True)
        for size in (2, 4, 8):
            self.told(size, orders, trail, False)

    def test_a_long_trail(self):
        orders = [[number, -number] for number in range(300)]
        trail = run(8, orders, 60000, random.Random(9))
        self.told(8, orders, trail, True)
        hand, deed, cell, value = trail[-1]
        self.told(8, orders, trail[:-1] + [(hand, deed, cell, value + 1)], False)

    def test_refusals(self):
        trail = run(2, [[1]], 30, random.Random(1))
        for size in BAD_SIZES:
            self.refused(BadSize, trail_good, size, [[1]], trail)
            self.refused(BadSize, trail_good, size, [[]], [("nobody", "", 0, 0)])
        for size in SIZES:
            for bad in bad_orders(size):
                self.refused(BadOrder, trail_good, size, [bad], [])
                self.refused(BadOrder, trail_good, size, [[1], bad, [2]], [("nobody", "", 0, 0)])
                self.refused(BadOrder, trail_good, size, [[1]] * 5 + [bad], trail)
