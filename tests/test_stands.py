"""Points 25 to 27: what a stand is, which tuples are stands, lanes that are made of stands."""

import random

from slipring import stands
from slipring.board import Board
from slipring.errors import BadStand
from slipring.fronts import marks_of
from slipring.lane import Lane
from slipring.stands import lane_at, stand_of
from tests.helper import (
    BAD_MARKS, COMING_UP, GIVER_STAGES, HANDS, HUGE, SIZES, TAKER_STAGES, WAITING, Model, RingTest, Watched,
    all_stages, bad_turns, frozen, is_stand, model_at, woven,
)

GIVER_UP = ("rouse", None, (), 0, 0)
TAKER_UP = ("rouse", None, (), None, 0, 0, ())
NEW_TWO = (2, -1, 0, 0, 2, -1, 0, 0, -1, -1, 0, 0)


def new_cells(size):
    return tuple(Board(size).all_cells())


def with_giver(giver, orders=((1, 2), (3,)), size=2):
    return (new_cells(size), giver, TAKER_UP, orders, ())


def with_taker(taker, size=2):
    return (new_cells(size), GIVER_UP, taker, ((1, 2), (3,)), ())


def kinds_of(thing):
    """The kinds of a thing, all the way down."""
    if isinstance(thing, tuple):
        return (type(thing), tuple(kinds_of(one) for one in thing))
    return type(thing)


class StandOfTest(RingTest):
    def test_names_and_arguments(self):
        self.same_arguments(stands, {"stand_of": ["lane"], "lane_at": ["stand"]})

    def test_a_new_lane(self):
        for size in SIZES:
            lane = Lane(size)
            self.assertEqual(stand_of(lane), (new_cells(size), GIVER_UP, TAKER_UP, (), ()))
            lane.hand_in([5, -HUGE])
            lane.hand_in([6])
            self.assertEqual(stand_of(lane), (new_cells(size), GIVER_UP, TAKER_UP, ((5, -HUGE), (6,)), ()))

    def test_what_the_giver_has_in_mind(self):
        lane = Lane(2)
        lane.hand_in([7, 8])
        asked = [
            ("rouse", None, (), 0, 0), ("clear", None, (), 0, 0), ("mute", None, (), 0, 0), ("marks", None, (), 0, 0),
            ("marks", None, (2,), 0, 0), ("told", 0, (), 0, 0), ("lacks", 0, (), -1, 0), ("look", 0, (), 0, 0),
            ("number", 0, (), 0, 0), ("left", 0, (), 0, 0), ("thing", 0, (), 0, 0), ("mark", 0, (), 0, 0),
            ("card", 0, (), 0, 0), ("look", 1, (), 0, 1), ("number", 1, (), 0, 1), ("left", 1, (), 0, 1),
            ("thing", 1, (), 0, 1), ("mark", 1, (), 0, 1), ("card", 1, (), 0, 1), ("look", 2, (), 1, 0),
            ("look", 2, (), 1, 0),
        ]
        for giver in asked:
            self.assertEqual(stand_of(lane)[1], giver)
            lane.step("giver")
        lane.hand_in([9])
        for giver in (
            ("look", 2, (), 1, 0), ("wish", 2, (), 1, 0), ("again", 2, (), 1, 0), ("sleep", 2, (), 1, 0),
            ("sleep", 2, (), 1, 0),
        ):
            self.assertEqual(stand_of(lane)[1], giver)
            lane.step("giver")
        lane.board.write(10, 1)
        for giver in (("sleep", 2, (), 1, 0), ("hush", 2, (), 1, 0), ("unwish", 2, (), 1, 0), ("look", 2, (), 1, 0)):
            self.assertEqual(stand_of(lane)[1], giver)
            lane.step("giver")
        lane.fall("giver")
        for giver in (
            ("rouse", None, (), 0, 0), ("clear", None, (), 0, 0), ("mute", None, (), 0, 0), ("marks", None, (), 0, 0),
            ("marks", None, (1,), 0, 0), ("told", 2, (), 0, 0), ("lacks", 2, (), 0, 0), ("look", 2, (), 1, 0),
        ):
            self.assertEqual(stand_of(lane)[1], giver)
            lane.step("giver")

    def test_the_giver_at_ring_has_the_part_that_it_has_just_given(self):
        lane = Lane(3)
        lane.hand_in([7])
        lane.hand_in([8, 9])
        for _ in range(20):
            lane.step("taker")
        for _ in range(8 + 5):
            lane.step("giver")
        self.assertEqual(stand_of(lane)[1], ("card", 0, (), 0, 0))
        lane.step("giver")
        self.assertEqual(stand_of(lane)[1], ("ring", 0, (), 0, 0))
        lane.step("giver")
        self.assertEqual(stand_of(lane)[1], ("look", 1, (), 1, 0))
        for _ in range(6):
            lane.step("giver")
        self.assertEqual(stand_of(lane)[1], ("look", 2, (), 1, 1))

    def test_what_the_taker_has_in_mind(self):
        lane = Lane(2)
        lane.hand_in([7, -8])
        lane.hand_in([9])
        for _ in range(19):
            lane.step("giver")
        asked = [
            ("rouse", None, (), None, 0, 0, ()), ("clear", None, (), None, 0, 0, ()),
            ("mute", None, (), None, 0, 0, ()), ("marks", None, (), None, 0, 0, ()),
            ("marks", None, (1,), None, 0, 0, ()), ("look", 0, (), 0, 0, 0, ()), ("number", 0, (), 0, 0, 0, ()),
            ("left", 0, (), 0, 0, 0, ()), ("thing", 0, (), 0, 0, 1, ()), ("look", 1, (), 0, 0, 0, (7,)),
            ("number", 1, (), 0, 0, 0, (7,)), ("left", 1, (), 0, 0, 0, (7,)), ("thing", 1, (), 0, 0, 0, (7,)),
            ("free", 1, (), 0, 0, 0, ()), ("card", 1, (), 0, 0, 0, ()), ("free", 1, (), 1, 0, 0, ()),
            ("card", 1, (), 1, 0, 0, ()), ("look", 2, (), 2, 0, 0, ()), ("wish", 2, (), 2, 0, 0, ()),
            ("again", 2, (), 2, 0, 0, ()), ("sleep", 2, (), 2, 0, 0, ()), ("sleep", 2, (), 2, 0, 0, ()),
        ]
        for taker in asked:
            self.assertEqual(stand_of(lane)[2], taker)
            lane.step("taker")
        for _ in range(8):
            lane.step("giver")
        asked = [
            ("sleep", 2, (), 2, 0, 0, ()), ("hush", 2, (), 2, 0, 0, ()), ("unwish", 2, (), 2, 0, 0, ()),
            ("look", 2, (), 2, 0, 0, ()), ("number", 2, (), 2, 0, 0, ()), ("left", 2, (), 2, 1, 0, ()),
            ("thing", 2, (), 2, 1, 0, ()), ("free", 2, (), 2, 0, 0, ()), ("card", 2, (), 2, 0, 0, ()),
            ("look", 3, (), 3, 0, 0, ()),
        ]
        for taker in asked:
            self.assertEqual(stand_of(lane)[2], taker)
            lane.step("taker")
        self.assertEqual(stand_of(lane)[4], ((7, -8), (9,)))

    def test_the_taker_at_ring(self):
        lane = Lane(2)
        for number in range(3):
            lane.hand_in([number])
        for _ in range(30):
            lane.step("giver")
        self.assertEqual(stand_of(lane)[1], ("sleep", 2, (), 2, 0))
        while lane.stage("taker") != "ring":
            lane.step("taker")
        self.assertEqual(stand_of(lane)[2], ("ring", 0, (), 0, 0, 0, ()))
        self.assertEqual(stand_of(lane)[4], ((0,),))

    def test_tuples_all_the_way_down(self):
        for stand in all_stages().values():
            told = stand_of(lane_at(stand))
            self.assertEqual(told, stand)
            self.assertEqual(kinds_of(told), kinds_of(stand))

    def test_a_stand_is_told_at_any_moment_and_stays(self):
        chance = random.Random(250)
        for size in SIZES:
            watched = Watched(self, Lane(size), Model(size))
            kept = []
            for _ in range(40):
                woven(chance, watched, 10, 0.05, 0.1)
                touches = watched.lane.board.touches()
                told = stand_of(watched.lane)
                self.assertEqual(told, watched.model.stand())
                self.assertEqual(watched.lane.board.touches(), touches)
                kept.append((told, watched.model.stand()))
            for one, other in kept:
                self.assertEqual(one, other)

    def test_each_stage_of_each_hand_comes(self):
        told = all_stages()
        for size in (2, 3, 8):
            self.assertEqual({key[1] for key in told if key[0] == size}, set(GIVER_STAGES))
            self.assertEqual({key[2] for key in told if key[0] == size}, set(TAKER_STAGES))


class LaneAtTest(RingTest):
    def test_it_stands_so_without_trail_and_touches(self):
        for (size, giver, taker), stand in all_stages().items():
            lane = lane_at(stand)
            self.assertIsInstance(lane, Lane)
            self.assertEqual(stand_of(lane), stand)
            self.assertEqual((lane.board.touches(), lane.board.last_touch(), lane.trail()), (0, None, []))
            self.assertEqual((lane.board.size, lane.stage("giver"), lane.stage("taker")), (size, giver, taker))
            self.assertEqual((lane.turn("giver"), lane.turn("taker")), (stand[1][1], stand[2][1]))
            self.assertEqual(lane.taker.first(), stand[2][3])
            self.assertEqual(frozen(lane.orders()), stand[3])
            self.assertEqual(frozen(lane.book()), stand[4])
            self.assertEqual(tuple(lane.cells()), stand[0])
            self.assertIs(lane.quiet(), model_at(stand).quiet())

    def test_it_goes_on_as_any_lane_that_stands_so(self):
        chance = random.Random(27)
        for (size, giver, taker), stand in all_stages().items():
            watched = Watched(self, lane_at(stand), model_at(stand))
            woven(chance, watched, 25, 0.02, 0.05)
            self.assertEqual(watched.lane.trail(), watched.model.trail)
            self.assertEqual(watched.lane.board.touches(), len(watched.model.trail))
            self.assertEqual(stand_of(watched.lane), watched.model.stand())
            if (giver, taker) in (("card", "sleep"), ("sleep", "card"), ("marks", "marks")):
                watched.settle()

    def test_each_step_by_way_of_a_stand(self):
        chance = random.Random(270)
        for size in (2, 3, 8):
            lane, model = Lane(size), Model(size)
            for at in range(400):
                if at % 40 == 0:
                    order = [at] * (1 + at % size)
                    self.assertEqual(lane.hand_in(order), len(model.orders))
                    model.orders.append(order)
                if at % 90 == 89:
                    own = chance.randrange(2)
                    lane.fall(HANDS[own])
                    model.fall(own)
                lane = lane_at(stand_of(lane))
                own = chance.randrange(2)
                touch = model.step(own)
                self.assertIs(lane.step(HANDS[own]), touch is not None)
                self.assertEqual(lane.trail(), [] if touch is None else [touch])
                self.assertEqual(stand_of(lane), model.stand())

    def test_lanes_of_one_stand_have_nothing_in_common(self):
        for stand in list(all_stages().values())[::20]:
            one, other = lane_at(stand), lane_at(stand)
            for at in range(100):
                one.step(HANDS[at % 2])
            one.hand_in([4])
            one.fall("taker")
            self.assertEqual(stand_of(other), stand)
            self.assertEqual((other.trail(), other.board.touches()), ([], 0))
            self.assertEqual(stand_of(lane_at(stand)), stand)

    def test_stands_to_which_no_row_of_steps_leads(self):
        crooked = (0, -7, HUGE, 0, 3, 9, -2, 5, 0, 0, 0, -HUGE, 5, -1, 1, 0)
        told = [
            (crooked, GIVER_UP, TAKER_UP, (), ()),
            (crooked, GIVER_UP, TAKER_UP, ((1,),), ((9, 9, 9), (8,))),
            (crooked, ("ring", 5, (), 1, 2), TAKER_UP, ((1,), (2, 3, 4)), ()),
            (crooked, ("marks", None, (0, 3), 0, 0), ("marks", None, (3, 0), None, 0, 0, ()), (), ()),
            (crooked, ("lacks", 3, (), -1, 0), ("thing", 4, (), 2, -HUGE, HUGE, (5, 6)), ((1,),), ((2,),)),
            (crooked, ("lacks", 3, (), 0, 0), ("left", 1, (), 5, HUGE, 0, (5, 6)), ((1,),), ((2,),)),
            (crooked, ("sleep", 0, (), 1, 0), ("free", 1, (), 5, 0, 0, ()), ((1,),), ()),
            (crooked, ("mark", 4, (), 0, 0), ("sleep", 0, (), 4, 0, 0, (1, 1)), ((1,),), ((3,),) * 10),
        ]
        for stand in told:
            lane = lane_at(stand)
            self.assertEqual(stand_of(lane), stand)
            self.assertEqual((lane.board.touches(), lane.trail()), (0, []))
            self.assertEqual(stand_of(lane_at(stand_of(lane))), stand)


class BadStandTest(RingTest):
    def good(self, stand):
        self.assertTrue(is_stand(stand), stand)
        self.assertEqual(stand_of(lane_at(stand)), stand)

    def bad(self, stand):
        self.assertFalse(is_stand(stand), stand)
        self.refused(BadStand, lane_at, stand)

    def test_cells(self):
        self.good((NEW_TWO, GIVER_UP, TAKER_UP, (), ()))
        for cells in (
            (), NEW_TWO[:-1], NEW_TWO + (0,), NEW_TWO[:4] + NEW_TWO[8:], NEW_TWO[:4] * 9 + NEW_TWO[8:],
            (4,) + NEW_TWO[1:], (-1,) + NEW_TWO[1:], NEW_TWO[:4] + (HUGE,) + NEW_TWO[5:],
            NEW_TWO[:8] + (-2, -1, 0, 0), NEW_TWO[:8] + (4, -1, 0, 0), NEW_TWO[:8] + (-1, 4, 0, 0),
            NEW_TWO[:8] + (-1, -2, 0, 0), NEW_TWO[:8] + (-1, -1, 2, 0), NEW_TWO[:8] + (-1, -1, -1, 0),
            NEW_TWO[:8] + (-1, -1, 0, 2), NEW_TWO[:8] + (-1, -1, 0, -1),
        ):
            self.bad((cells, GIVER_UP, TAKER_UP, (), ()))
        self.good((NEW_TWO[:8] + (3, 0, 1, 1), GIVER_UP, TAKER_UP, (), ()))

    def test_orders_and_book(self):
        for size in SIZES:
            most = (5,) * size
            self.good((new_cells(size), GIVER_UP, TAKER_UP, ((1,), most), (most, (HUGE,))))
            for bad in ((), (5,) * (size + 1), (5,) * 40):
                for place in range(3):
                    orders = ((1,), most)[:place] + (bad,) + ((1,), most)[place:]
                    self.bad((new_cells(size), GIVER_UP, TAKER_UP, orders, ()))
                    self.bad((new_cells(size), GIVER_UP, TAKER_UP, (), orders))

    def test_stages(self):
        for stage in ("", " ", "Rouse", "rouse ", "free", "giver", "none", "lack", "marked"):
            for turn in (None, 0):
                self.bad(with_giver((stage, turn, (), 0, 0)))
        for stage in ("", " ", "ROUSE", "told", "lacks", "mark", "taker", "frees", "tell"):
            for turn in (None, 0):
                self.bad(with_taker((stage, turn, (), turn, 0, 0, ())))

    def test_turns(self):
        for size in (2, 3, 8):
            for stage in GIVER_STAGES:
                for turn in [None] + list(range(2 * size)) + bad_turns(size):
                    stand = with_giver((stage, turn, (), 0, 0), size=size)
                    fits = turn is None if stage in COMING_UP else turn in range(2 * size)
                    (self.good if fits else self.bad)(stand)
            for stage in TAKER_STAGES:
                for turn in [None] + list(range(2 * size)) + bad_turns(size):
                    fits = turn is None if stage in COMING_UP else turn in range(2 * size)
                    (self.good if fits else self.bad)(with_taker((stage, turn, (), turn, 0, 0, ()), size=size))
                    if turn is not None:
                        self.bad(with_taker((stage, None, (), turn, 0, 0, ()), size=size))
                        self.bad(with_taker((stage, turn, (), None, 0, 0, ()), size=size))
                        for other in bad_turns(size):
                            self.bad(with_taker((stage, turn, (), other, 0, 0, ()), size=size))
                            self.bad(with_taker((stage, other, (), turn, 0, 0, ()), size=size))

    def test_marks(self):
        for size in SIZES:
            for many in range(size + 2):
                for mark in (0, 1, 2, 3):
                    check = self.good if many < size else self.bad
                    check(with_giver(("marks", None, (mark,) * many, 0, 0), size=size))
                    check(with_taker(("marks", None, (mark,) * many, None, 0, 0, ()), size=size))
            for mark in BAD_MARKS:
                for marks in ((mark,), (0,) * (size - 2) + (mark,)):
                    self.bad(with_giver(("marks", None, marks, 0, 0), size=size))
                    self.bad(with_taker(("marks", None, marks, None, 0, 0, ()), size=size))
            for stage in GIVER_STAGES:
                if stage != "marks":
                    turn = None if stage in COMING_UP else 1
                    self.bad(with_giver((stage, turn, (2,), 0, 0), size=size))
            for stage in TAKER_STAGES:
                if stage != "marks":
                    turn = None if stage in COMING_UP else 1
                    self.bad(with_taker((stage, turn, (2,), turn, 0, 0, ()), size=size))

    def test_order_and_part(self):
        orders = ((1, 2), (3,), (4, 5))
        there = [(0, 0), (0, 1), (1, 0), (2, 0), (2, 1)]
        tried = [(order, part) for order in (-HUGE, -2, -1, 0, 1, 2, 3, 4, HUGE) for part in (-1, 0, 1, 2, HUGE)]
        for stage in GIVER_STAGES:
            turn = None if stage in COMING_UP else 1
            for order, part in tried:
                if turn is None or stage == "told":
                    fits = (order, part) == (0, 0)
                elif stage == "lacks":
                    fits = order in (-1, 0, 1, 2) and part == 0
                elif stage in WAITING:
                    fits = (order, part) in there + [(3, 0)]
                else:
                    fits = (order, part) in there
                (self.good if fits else self.bad)(with_giver((stage, turn, (), order, part), orders))

    def test_order_and_part_where_there_are_no_orders(self):
        for stage in GIVER_STAGES:
            turn = None if stage in COMING_UP else 1
            for order in (-1, 0, 1):
                if stage == "lacks":
                    fits = order == -1
                else:
                    fits = order == 0 and stage in COMING_UP + ["told"] + WAITING
                (self.good if fits else self.bad)(with_giver((stage, turn, (), order, 0), ()))
                self.bad(with_giver((stage, turn, (), order, 1), ()))

    def test_number_and_left(self):
        for stage in TAKER_STAGES:
            turn = None if stage in COMING_UP else 1
            for number in (-HUGE, -1, 0, 1, HUGE):
                for left in (-HUGE, -1, 0, 1, HUGE):
                    fits = number == 0 or stage in ("left", "thing")
                    fits = fits and (left == 0 or (stage == "thing" and left > 0))
                    (self.good if fits else self.bad)(with_taker((stage, turn, (), turn, number, left, ())))

    def test_parts(self):
        for size in (2, 3, 8):
            for stage in TAKER_STAGES:
                if stage in COMING_UP:
                    self.bad(with_taker((stage, None, (), None, 0, 0, (1,)), size=size))
                    continue
                for first in (0, 1, size, 2 * size - 1):
                    for ahead in range(2 * size):
                        turn = (first + ahead) % (2 * size)
                        for many in range(size + 2):
                            if stage in ("free", "card", "ring"):
                                fits = many == 0 and ahead < size
                            else:
                                fits = many == ahead and many < size
                            stand = with_taker((stage, turn, (), first, 0, 0, (7,) * many), size=size)
                            (self.good if fits else self.bad)(stand)

    def test_one_thing_changed_in_stands_of_each_stage(self):
        numbers = [None, -2, -1, 0, 1, 2, 3, 4, 7, HUGE]
        rows = [(), (0,), (1, 2), (4,), (-1, 2), (1,) * 8]
        refused = accepted = 0
        for stand in all_stages().values():
            cells, giver, taker, orders, book = stand
            changed = []
            for at in range(5):
                values = {0: GIVER_STAGES + ["free", ""], 1: numbers, 2: rows}.get(at, numbers[1:])
                changed += [(cells, giver[:at] + (value,) + giver[at + 1:], taker, orders, book) for value in values]
            for at in range(7):
                values = {0: TAKER_STAGES + ["mark", ""], 1: numbers, 2: rows, 3: numbers, 6: rows}
                for value in values.get(at, numbers[1:]):
                    changed.append((cells, giver, taker[:at] + (value,) + taker[at + 1:], orders, book))
            changed += [(cells, giver, taker, orders[:many], book) for many in range(min(len(orders), 3))]
            changed += [(cells, giver, taker, (), book), (cells, giver, taker, orders, ())]
            for other in changed:
                if is_stand(other):
                    self.assertEqual(stand_of(lane_at(other)), other)
                    accepted += 1
                else:
                    self.refused(BadStand, lane_at, other)
                    refused += 1
        self.assertGreater(refused, 10000)
        self.assertGreater(accepted, 3000)

    def test_marks_of_the_board_need_not_be_sound(self):
        for taker in range(4):
            for giver in range(4):
                cells = list(NEW_TWO)
                cells[0], cells[4] = taker, giver
                self.good((tuple(cells), ("look", 1, (), 0, 1), ("look", 2, (), 2, 0, 0, ()), ((1, 2),), ((3,),)))
        self.assertEqual(marks_of(2, 0, 0), [2, 2])
