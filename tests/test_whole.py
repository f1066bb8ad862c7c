"""Points 2 and 3: what holds over the whole program, whatever row of steps is made and whenever a hand falls."""

import random

from slipring.board import Board
from slipring.lane import Lane
from slipring.looks import owner, slips, sound_board
from slipring.outside import falls_of, first_wrong
from slipring.stands import lane_at, stand_of
from tests.helper import (
    GIVER_STAGES, HANDS, HUGE, SIZES, TAKER_STAGES, Model, RingTest, Watched, all_stages, lane_of, model_at, slips_of,
    woven,
)


class Careful(Watched):
    """A watched lane whose board is looked at, too, at each moment."""

    def check(self):
        Watched.check(self)
        lane = self.lane
        cells = lane.cells()
        self.test.assertIs(sound_board(cells), True)
        # What lies there is a row of the orders' slips, the book's last order being freed at most.
        rows, lying = slips_of(lane.orders()), slips(cells)
        if lying:
            start = rows.index(lying[0], len(slips_of(lane.book()[:-1]))) if lane.book() else 0
            self.test.assertEqual(rows[start:start + len(lying)], lying)

    def step(self, own):
        before = self.lane.cells()
        Watched.step(self, own)
        for place in range(self.model.size):
            if before[4 * place:4 * place + 4] != self.lane.cells()[4 * place:4 * place + 4]:
                self.test.assertEqual(owner(before, place), HANDS[own])


def careful(test, size):
    return Careful(test, Lane(size), Model(size))


class LaneTest(RingTest):
    def test_any_row_of_steps_falls_and_orders(self):
        chance = random.Random(3)
        for size in SIZES:
            for falls in (0, 0.02, 0.08):
                for leaning in (0.2, 0.5, 0.8):
                    watched = careful(self, size)
                    woven(chance, watched, 250, falls, 0.03, leaning)
                    watched.settle()

    def test_a_fall_at_each_stage_of_each_hand(self):
        told = all_stages()
        for size in (2, 3, 8):
            for own, stages in enumerate((GIVER_STAGES, TAKER_STAGES)):
                for stage in stages:
                    there = [told[key] for key in told if key[0] == size and key[1 + own] == stage]
                    for stand in there[::max(1, len(there) // 3)]:
                        watched = Careful(self, lane_at(stand), model_at(stand))
                        watched.fall(own)
                        watched.hand_in([HUGE, -HUGE])
                        watched.settle()

    def test_both_fall_over_and_over(self):
        for size in (2, 3, 8):
            for every in range(1, 40, 3):
                watched = careful(self, size)
                watched.hand_in([5] * size)
                watched.hand_in([6])
                for at in range(200):
                    if at % every == 0:
                        watched.fall(at // every % 2)
                    watched.step(at // 2 % 2)
                watched.settle()

    def test_runs_of_one_hand_then_of_the_other(self):
        chance = random.Random(31)
        for size in SIZES:
            watched = careful(self, size)
            for number in range(4):
                watched.hand_in([number] * (1 + number % size))
            for _ in range(60):
                own = chance.randrange(2)
                for _ in range(chance.randrange(12)):
                    watched.step(own)
                if chance.random() < 0.1:
                    watched.fall(chance.randrange(2))
            watched.settle()

    def test_orders_handed_in_to_a_quiet_lane(self):
        for size in (2, 3, 8):
            watched = careful(self, size)
            for number in range(size + 3):
                watched.settle()
                watched.hand_in([number] * (1 + number % size))
            watched.settle()

    def test_it_settles_within_the_steps_that_are_told_without_a_step_too_many(self):
        # The count is asked for at many moments: what is in the book by then needs no more steps.
        chance = random.Random(32)
        for size in (2, 5, 8):
            lane = Lane(size)
            for number in range(10):
                lane.hand_in([number] * (1 + number % size))
            for _ in range(15):
                for _ in range(40):
                    lane.step(HANDS[chance.randrange(2)])
                if chance.random() < 0.5:
                    lane.fall(HANDS[chance.randrange(2)])
                other = lane_at(stand_of(lane))
                missing = sum(len(order) for order in lane.orders()[len(lane.book()):])
                full = sum(mark % 2 for mark in lane.cells()[0:4 * size:4])
                for _ in range(60 * (missing + full) + 100):
                    other.step("giver")
                    other.step("taker")
                self.assertEqual((other.book(), other.quiet()), (lane.orders(), True))

    def test_three_hundred_orders_and_two_hundred_thousand_steps(self):
        chance = random.Random(33)
        for size, falls in ((2, 0.001), (8, 0.0)):
            lane = Lane(size)
            fallen = [0, 0]
            for at in range(200000):
                if at % 300 == 0 and len(lane.orders()) < 300:
                    number = len(lane.orders())
                    lane.hand_in([number, -number, HUGE][:1 + number % min(size, 3)])
                if chance.random() < falls:
                    own = chance.randrange(2)
                    lane.fall(HANDS[own])
                    fallen[own] += 1
                lane.step(HANDS[chance.randrange(2)])
                if at % 5000 == 0:
                    self.assertTrue(sound_board(lane.cells()))
                    self.assertEqual(lane.book(), lane.orders()[:len(lane.book())])
            self.assertEqual((lane.book(), len(lane.orders())), (lane.orders(), 300))
            self.assertIsNone(first_wrong(size, lane.orders(), lane.trail()))
            giver, taker = falls_of(size, lane.orders(), lane.trail())
            self.assertTrue(len(giver) <= fallen[0] and len(taker) <= fallen[1])
            self.assertEqual(giver == [] and taker == [], falls == 0)


class SmallRingTest(RingTest):
    """All stands that any row of steps and up to two falls lead to, on small rings."""

    def check(self, lane):
        cells, book, orders = lane.cells(), lane.book(), lane.orders()
        size = lane.board.size
        self.assertEqual(book, orders[:len(book)])
        self.assertTrue(sound_board(cells))
        if lane.quiet():
            self.assertEqual(book, orders)
        for own, hand in enumerate(HANDS):
            if lane.stage(hand) == "sleep" and lane.still(hand):
                turn = lane.turn(hand)
                if cells[4 * (turn % size)] == [[2, 0], [1, 3]][own][turn // size]:
                    self.assertIn(lane.stage(HANDS[1 - own]), ("card", "ring", "rouse"))

    def all_stands(self, size, orders, falls):
        lane = lane_of(size, orders)
        new = (stand_of(lane), falls)
        seen, ahead = {new}, [new]
        while ahead:
            stand, left = ahead.pop()
            for deed in ("step", "fall") if left > 0 else ("step",):
                for hand in HANDS:
                    lane = lane_at(stand)
                    before = lane.cells()
                    getattr(lane, deed)(hand)
                    self.check(lane)
                    if deed == "step" and lane.trail() and lane.trail()[0][1] == "write":
                        cell = lane.trail()[0][2]
                        if cell < 4 * size:
                            self.assertEqual(owner(before, cell // 4), hand)
                    behind = (stand_of(lane), left - (deed == "fall"))
                    if behind not in seen:
                        seen.add(behind)
                        ahead.append(behind)
        return seen

    def test_all_weavings_of_small_rings(self):
        for size, orders, falls in (
            (2, [], 2), (2, [[5]], 2), (2, [[5], [6, 7]], 0), (2, [[5, 6], [7]], 1), (3, [[1], [2, 3, 4]], 0),
        ):
            seen = self.all_stands(size, orders, falls)
            self.assertGreater(len(seen), 400, (size, orders, falls))
            self.assertTrue(any(lane_at(stand).quiet() for stand, left in seen))


class NothingKeptTest(RingTest):
    def test_a_board_alone_is_shared(self):
        one, other = Lane(2), Lane(2)
        self.assertIsNot(one.board, other.board)
        one.board.write(3, 5)
        self.assertEqual(other.cells(), Board(2).all_cells())
        self.assertEqual(one.cells()[3], 5)
