"""Points 19 and 20: what a lane has, orders handed in, hands that are stepped and that fall, quiet, the trail."""

import random

from slipring import lane as lane_module
from slipring.board import Board
from slipring.errors import BadOrder, BadSize, NoHand
from slipring.giver import Giver
from slipring.lane import Lane
from slipring.stands import stand_of
from slipring.taker import Taker
from tests.helper import (
    BAD_HANDS, BAD_SIZES, HANDS, HUGE, SIZES, Model, RingTest, Watched, bad_orders, lane_of, model_with, woven,
)


def step_by_turns(lane, many):
    for at in range(many):
        lane.step(HANDS[at % 2])


def all_told(lane):
    """All that a lane tells of itself."""
    touches = (lane.board.touches(), lane.board.last_touch(), lane.trail())
    hands = [(lane.stage(hand), lane.turn(hand), lane.still(hand)) for hand in HANDS]
    return stand_of(lane), touches, hands, lane.quiet(), lane.book(), lane.orders(), lane.cells()


class NewLaneTest(RingTest):
    def test_names_and_arguments(self):
        self.same_arguments(lane_module, {"Lane": ["size"]})
        asked = {
            "hand_in": ["order"], "step": ["hand"], "fall": ["hand"], "stage": ["hand"], "turn": ["hand"],
            "still": ["hand"], "book": [], "orders": [], "quiet": [], "trail": [], "cells": [],
        }
        self.same_arguments(Lane, asked)

    def test_a_new_lane(self):
        for size in SIZES:
            lane = Lane(size)
            self.assertIsInstance(lane.board, Board)
            self.assertIsInstance(lane.giver, Giver)
            self.assertIsInstance(lane.taker, Taker)
            self.assertEqual(lane.board.size, size)
            self.assertEqual(lane.cells(), [2, -1, 0, 0] * size + [-1, -1, 0, 0])
            self.assertEqual((lane.board.touches(), lane.board.last_touch()), (0, None))
            self.assertEqual((lane.book(), lane.orders(), lane.trail()), ([], [], []))
            self.assertIs(lane.quiet(), False)
            for hand in HANDS:
                self.assertEqual((lane.stage(hand), lane.turn(hand)), ("rouse", None))
                self.assertIs(lane.still(hand), False)

    def test_sizes_that_are_none(self):
        for size in BAD_SIZES:
            self.refused(BadSize, Lane, size)

    def test_orders_are_handed_in_to_the_giver(self):
        for size in SIZES:
            lane = Lane(size)
            orders = [[number] * (1 + number % size) for number in range(3 * size)] + [[-HUGE, HUGE]]
            for number, order in enumerate(orders):
                self.same_number(lane.hand_in(order), number)
            self.assertEqual(lane.orders(), orders)
            self.assertEqual(lane.giver.orders(), orders)
            self.assertEqual((lane.book(), lane.trail()), ([], []))

    def test_lanes_have_nothing_in_common(self):
        one, other = Lane(3), Lane(3)
        told = all_told(other)
        one.hand_in([1, 2])
        step_by_turns(one, 100)
        one.fall("giver")
        one.fall("taker")
        self.assertEqual(all_told(other), told)
        self.assertEqual(all_told(Lane(3)), told)


class StepTest(RingTest):
    def test_the_first_touches(self):
        lane = lane_of(2, [[7]])
        asked = [
            ("giver", "write", 11, 1), ("taker", "write", 10, 1),
            ("giver", "write", 8, -1), ("taker", "write", 9, -1),
            ("giver", "write", 10, 0), ("taker", "write", 11, 0),
            ("giver", "read", 0, 2), ("taker", "read", 0, 2),
            ("giver", "read", 4, 2), ("taker", "read", 4, 2),
            ("giver", "read", 5, -1), ("taker", "read", 0, 2),
            ("giver", "read", 6, 0), ("taker", "write", 9, 0),
            ("giver", "read", 0, 2), ("taker", "read", 0, 2),
            ("giver", "write", 1, 0), ("taker", "read", 11, 0),
            ("giver", "write", 2, 0), ("taker", "read", 11, 0),
            ("giver", "write", 3, 7), ("taker", "read", 11, 0),
            ("giver", "write", 0, 1), ("taker", "read", 11, 0),
            ("giver", "read", 9, 0), ("taker", "read", 11, 0),
            ("giver", "write", 11, 1), ("taker", "read", 11, 1),
        ]
        for many, touch in enumerate(asked):
            self.assertIs(lane.step(touch[0]), True)
            self.assertEqual(lane.board.last_touch(), touch[1:])
            self.assertEqual(lane.trail(), asked[:many + 1])
        self.assertIs(lane.step("giver"), False)
        self.assertEqual(lane.trail(), asked)
        self.assertEqual((lane.still("giver"), lane.still("taker"), lane.quiet()), (True, False, False))
        self.assertEqual((lane.turn("giver"), lane.turn("taker")), (1, 0))
        self.assertEqual((lane.stage("giver"), lane.stage("taker")), ("look", "hush"))

    def test_a_step_touches_one_cell_and_tells_so(self):
        lane = lane_of(3, [[1, 2, 3], [4]])
        for at in range(300):
            touches, many = lane.board.touches(), len(lane.trail())
            told = lane.step(HANDS[at // 7 % 2])
            self.assertIs(type(told), bool)
            self.assertEqual(lane.board.touches(), touches + told)
            self.assertEqual(len(lane.trail()), many + told)
        self.assertEqual(lane.board.touches(), len(lane.trail()))

    def test_what_a_hand_tells(self):
        lane = lane_of(4, [[1], [2, 3, 4], [5]])
        for at in range(200):
            lane.step(HANDS[at // 5 % 2])
            for hand, one in (("giver", lane.giver), ("taker", lane.taker)):
                self.assertEqual((lane.stage(hand), lane.turn(hand)), (one.stage(), one.turn()))
                self.assertIs(lane.still(hand), one.still())
            self.assertEqual((lane.book(), lane.orders()), (lane.taker.book(), lane.giver.orders()))
            self.assertEqual(lane.cells(), lane.board.all_cells())

    def test_quiet_only_where_both_are_still(self):
        lane = Lane(2)
        for _ in range(20):
            lane.step("giver")
        self.assertEqual((lane.still("giver"), lane.still("taker"), lane.quiet()), (True, False, False))
        for _ in range(7):
            lane.step("taker")
        # The giver rang as it came up; the taker's own coming up stilled that bell.
        self.assertEqual((lane.still("giver"), lane.still("taker"), lane.quiet()), (True, False, False))
        lane.step("taker")
        self.assertEqual((lane.stage("taker"), lane.quiet()), ("sleep", True))
        lane.hand_in([5])
        self.assertEqual((lane.still("giver"), lane.still("taker"), lane.quiet()), (False, True, False))

    def test_steps_of_a_quiet_lane_change_nothing(self):
        lane = lane_of(3, [[1, 2]])
        step_by_turns(lane, 200)
        self.assertIs(lane.quiet(), True)
        stand, trail = stand_of(lane), lane.trail()
        for _ in range(5):
            self.assertIs(lane.step("giver"), False)
            self.assertIs(lane.step("taker"), True)
        self.assertEqual(stand_of(lane), stand)
        self.assertEqual(lane.trail(), trail + [("taker", "read", 15, 0)] * 5)


class FallTest(RingTest):
    def test_a_fall_keeps_orders_book_and_trail_alone(self):
        for size in (2, 3, 8):
            orders = [[number] * (1 + number % size) for number in range(5)]
            for own, hand in enumerate(HANDS):
                for moment in range(0, 150):
                    lane = lane_of(size, orders)
                    step_by_turns(lane, moment)
                    other = HANDS[1 - own]
                    kept = (lane.cells(), lane.trail(), lane.book(), lane.orders(), lane.board.touches())
                    others = (lane.stage(other), lane.turn(other), lane.still(other))
                    mind = stand_of(lane)[2 - own]
                    board, elder = lane.board, [lane.giver, lane.taker]
                    self.assertIsNone(lane.fall(hand))
                    self.assertEqual((lane.stage(hand), lane.turn(hand), lane.still(hand)), ("rouse", None, False))
                    told = (lane.cells(), lane.trail(), lane.book(), lane.orders(), lane.board.touches())
                    self.assertEqual(told, kept)
                    self.assertEqual((lane.stage(other), lane.turn(other), lane.still(other)), others)
                    self.assertEqual(stand_of(lane)[2 - own], mind)
                    self.assertIs(lane.board, board)
                    now = [lane.giver, lane.taker]
                    self.assertIsNot(now[own], elder[own])
                    self.assertIs(lane.taker.first() is None, lane.turn("taker") is None)

    def test_a_fallen_hand_comes_up(self):
        lane = lane_of(2, [[7], [8]])
        step_by_turns(lane, 60)
        many = len(lane.trail())
        lane.fall("giver")
        lane.fall("taker")
        for _ in range(4):
            lane.step("giver")
        for _ in range(4):
            lane.step("taker")
        cells = lane.cells()
        self.assertEqual(lane.trail()[many:], [
            ("giver", "write", 11, 1), ("giver", "write", 8, -1), ("giver", "write", 10, 0),
            ("giver", "read", 0, cells[0]),
            ("taker", "write", 10, 1), ("taker", "write", 9, -1), ("taker", "write", 11, 0),
            ("taker", "read", 0, cells[0]),
        ])

    def test_falls_one_behind_the_other(self):
        lane = lane_of(3, [[1], [2]])
        for _ in range(50):
            lane.fall("giver")
            lane.fall("taker")
            lane.fall("taker")
        self.assertEqual((lane.trail(), lane.orders(), lane.book()), ([], [[1], [2]], []))
        step_by_turns(lane, 300)
        self.assertEqual((lane.book(), lane.quiet()), ([[1], [2]], True))


class WovenLaneTest(RingTest):
    def test_any_row_of_steps_falls_and_orders(self):
        chance = random.Random(6)
        for size in SIZES:
            for falls in (0, 0.01, 0.1):
                for leaning in (0.1, 0.5, 0.9):
                    watched = Watched(self, Lane(size), Model(size))
                    woven(chance, watched, 300, falls, 0.05, leaning)
                    self.assertEqual(watched.lane.trail(), watched.model.trail)
                    self.assertEqual(stand_of(watched.lane), watched.model.stand())

    def test_hundreds_of_orders_and_many_steps(self):
        for size in (2, 8):
            orders = [[number, -number, HUGE][:1 + number % min(3, size)] for number in range(300)]
            lane, model = lane_of(size, orders), model_with(size, orders)
            for at in range(60000):
                own = at // 3 % 2 if size == 2 else at % 2
                model.step(own)
                lane.step(HANDS[own])
            self.assertEqual(lane.trail(), model.trail)
            self.assertEqual((lane.book(), lane.quiet()), (orders, True))
            self.assertGreater(len(model.trail), 30000)


class OwnListsTest(RingTest):
    def test_what_is_handed_in_is_not_kept(self):
        lane = Lane(3)
        order = [1, 2]
        lane.hand_in(order)
        order.append(3)
        order[0] = 9
        self.assertEqual(lane.orders(), [[1, 2]])
        step_by_turns(lane, 200)
        self.assertEqual(lane.book(), [[1, 2]])
        self.assertEqual(order, [9, 2, 3])
        lane.hand_in(order)
        step_by_turns(lane, 200)
        order.clear()
        self.assertEqual(lane.book(), [[1, 2], [9, 2, 3]])

    def test_what_is_told_is_the_askers_own(self):
        lane = lane_of(3, [[1, 2], [3]])
        step_by_turns(lane, 300)
        told = all_told(lane)
        for deed in (lane.book, lane.orders, lane.trail, lane.cells):
            one, other = deed(), deed()
            self.assertIs(type(one), list)
            lists = [one, other] + [row for row in one + other if isinstance(row, list)]
            self.assertEqual(len({id(row) for row in lists}), len(lists))
            for row in lists[2:]:
                row[0] = 77
                row.append(5)
            one.clear()
            self.assertEqual(all_told(lane), told)
        early = (lane.book(), lane.orders(), lane.trail(), lane.cells())
        same = (lane.book(), lane.orders(), lane.trail(), lane.cells())
        lane.hand_in([4, 5, 6])
        step_by_turns(lane, 300)
        lane.fall("giver")
        self.assertEqual(early, same)

    def test_a_touch_is_a_tuple(self):
        lane = lane_of(2, [[1]])
        step_by_turns(lane, 100)
        for touch in lane.trail():
            self.assertIs(type(touch), tuple)
            self.assertEqual([type(one) for one in touch], [str, str, int, int])


class RefusalTest(RingTest):
    def test_hands_that_are_none(self):
        for moment in (0, 3, 25, 60):
            lane = lane_of(3, [[1, 2], [3]])
            step_by_turns(lane, moment)
            told = all_told(lane)
            for deed in (lane.step, lane.fall, lane.stage, lane.turn, lane.still):
                for hand in BAD_HANDS:
                    self.refused(NoHand, deed, hand)
            self.assertEqual(all_told(lane), told)

    def test_orders_that_are_none(self):
        for size in SIZES:
            lane = lane_of(size, [[4]])
            step_by_turns(lane, 30)
            told = all_told(lane)
            for bad in bad_orders(size):
                self.refused(BadOrder, lane.hand_in, bad)
            self.assertEqual(all_told(lane), told)
            self.same_number(lane.hand_in([5] * size), 1)
