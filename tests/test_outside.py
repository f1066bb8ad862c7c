"""Point 28: the first touch that no falls explain, and the fewest falls that explain a trail."""

import copy
import itertools
import random

from slipring import outside
from slipring.errors import BadOrder, BadSize
from slipring.lane import Lane
from slipring.outside import falls_of, first_wrong
from tests.helper import (
    BAD_SIZES, HANDS, HUGE, SIZES, Mind, Model, RingTest, Watched, bad_orders, lane_of, model_with, woven,
)


def explained_by(size, orders, trail, falls):
    """Whether the trail is explained by these falls, a list for each hand."""
    model = model_with(size, orders)
    for at, touch in enumerate(trail):
        own = HANDS.index(touch[0])
        if at in falls[own]:
            model.fall(own)
        if model.step(own) != touch:
            return False
    return True


def rising_lists(numbers):
    """All rising lists of some of these numbers, the shorter ones first, and as lists come."""
    for many in range(len(numbers) + 1):
        for row in itertools.combinations(numbers, many):
            yield list(row)


def falls_by_trying(size, orders, trail):
    """The falls of both hands by trying all lists of falls, or None."""
    own_touches = [[at for at, touch in enumerate(trail) if touch[0] == hand] for hand in HANDS]
    for giver in rising_lists(own_touches[0]):
        for taker in rising_lists(own_touches[1]):
            if explained_by(size, orders, trail, [giver, taker]):
                return giver, taker
    return None


def key_of(mind):
    return repr(sorted(vars(mind).items()))


def ways_on(model, own, ways, at, touch):
    """Of all minds that the hand may have, with the least falls for each, those behind the touch."""
    behind = {}
    cells = list(model.cells)
    for mind, falls in ways:
        for fallen in (False, True):
            model.cells = list(cells)
            model.minds[own] = Mind() if fallen else copy.copy(mind)
            if model.step(own) == touch:
                now, row = model.minds[own], falls + [at] * fallen
                least = behind.get(key_of(now))
                if least is None or (len(row), row) < (len(least[1]), least[1]):
                    behind[key_of(now)] = (now, row)
    model.cells = cells
    if touch[1] == "write" and behind:
        model.cells[touch[2]] = touch[3]
    return list(behind.values())


def told_second(size, orders, trail):
    """The first wrong touch and the falls, a second time: all minds that each hand may have are followed."""
    model = model_with(size, orders)
    ways = [[(Mind(), [])], [(Mind(), [])]]
    for at, touch in enumerate(trail):
        if touch[0] not in HANDS:
            return at, None
        own = HANDS.index(touch[0])
        ways[own] = ways_on(model, own, ways[own], at, touch)
        if ways[own] == []:
            return at, None
    least = [min((len(falls), falls) for mind, falls in one)[1] for one in ways]
    return None, (least[0], least[1])


def trail_with_falls(chance, size, orders, steps, falls):
    """A lane with these orders, stepped so often, with falls as chance has it."""
    lane = lane_of(size, orders)
    leaning = chance.choice([0.3, 0.5, 0.7])
    for _ in range(steps):
        if chance.random() < falls:
            lane.fall(chance.choice(HANDS))
        lane.step(HANDS[int(chance.random() < leaning)])
    return lane.trail()


def lane_at_ring(size):
    """A lane whose giver is about to ring, having given the one order [7]; the taker sleeps, or nearly so."""
    lane = lane_of(size, [[7]])
    for _ in range(8):
        lane.step("taker")
    while lane.stage("giver") != "ring":
        lane.step("giver")
    return lane


class OutsideTest(RingTest):
    def told(self, size, orders, trail, wrong, falls):
        kept = (copy.deepcopy(orders), list(trail))
        self.assertEqual(first_wrong(size, orders, trail), wrong)
        told = falls_of(size, orders, trail)
        self.assertEqual(told, falls)
        if told is not None:
            self.assertEqual([type(told), type(told[0]), type(told[1])], [tuple, list, list])
        self.assertEqual((orders, trail), kept)

    def told_as_second(self, size, orders, trail):
        wrong, falls = told_second(size, orders, trail)
        self.told(size, orders, trail, wrong, falls)
        return wrong, falls

    def test_names_and_arguments(self):
        asked = {"first_wrong": ["size", "orders", "trail"], "falls_of": ["size", "orders", "trail"]}
        self.same_arguments(outside, asked)

    def test_no_touches(self):
        for size in SIZES:
            self.told(size, [], [], None, ([], []))
            self.told(size, [[1]], [], None, ([], []))

    def test_no_falls(self):
        chance = random.Random(28)
        for size in SIZES:
            for orders in ([], [[-HUGE] * size, [1]], [[number] for number in range(30)]):
                trail = trail_with_falls(chance, size, orders, 500, 0)
                self.told(size, orders, trail, None, ([], []))

    def test_one_fall_at_each_moment(self):
        orders = [[1, 2], [3]]
        for own, hand in enumerate(HANDS):
            for moment in range(120):
                lane = lane_of(2, orders)
                for at in range(120):
                    if at == moment:
                        fresh = lane.stage(hand) == "rouse"
                        ringing = lane.stage(hand) == "ring"
                        lane.fall(hand)
                        many = len(lane.trail())
                    lane.step(HANDS[at % 2])
                trail = lane.trail()
                behind = [number for number, touch in enumerate(trail) if touch[0] == hand and number >= many]
                # A fall ahead of the first touch, or behind the last one, is not seen.
                asked = [[], []]
                if behind and not fresh and not (ringing and len(behind) == 1):
                    asked[own] = [behind[0]]
                self.told(2, orders, trail, None, tuple(asked))

    def test_a_ring_and_a_fall_look_alike_until_the_next_touch(self):
        lane = lane_at_ring(2)
        many = len(lane.trail())
        lane.fall("giver")
        lane.step("giver")
        self.told(2, [[7]], lane.trail(), None, ([], []))
        lane.step("taker")
        self.told(2, [[7]], lane.trail(), None, ([], []))
        lane.step("giver")
        self.told(2, [[7]], lane.trail(), None, ([many], []))

    def test_falls_of_a_hand_that_came_up_and_fell_again(self):
        lane = lane_at_ring(3)
        many = len(lane.trail())
        for _ in range(3):
            lane.fall("giver")
            lane.step("giver")
        # The first of the three rings need be no fall, as nothing but a ring follows it.
        self.told(3, [[7]], lane.trail(), None, ([many + 1, many + 2], []))
        lane.step("giver")
        self.told(3, [[7]], lane.trail(), None, ([many + 1, many + 2], []))
        lane.fall("giver")
        lane.step("giver")
        self.told(3, [[7]], lane.trail(), None, ([many + 1, many + 2, many + 4], []))

    def test_falls_without_a_touch_between(self):
        lane = Lane(2)
        for _ in range(4):
            lane.step("taker")
        for _ in range(5):
            lane.fall("taker")
            lane.fall("giver")
        for _ in range(4):
            lane.step("taker")
            lane.step("giver")
        self.told(2, [], lane.trail(), None, ([], [4]))

    def test_a_giver_at_rest_that_fell(self):
        lane = Lane(2)
        for _ in range(9):
            lane.step("giver")
        self.assertEqual(len(lane.trail()), 7)
        lane.fall("giver")
        lane.step("giver")
        self.told(2, [], lane.trail(), None, ([7], []))
        self.told(2, [], lane.trail()[:7] + [("giver", "read", 0, 2)], 7, None)
        self.told(2, [[1]], lane.trail()[:7] + [("giver", "read", 0, 2)], None, ([], []))

    def test_by_trying_all_lists_of_falls(self):
        chance = random.Random(280)
        seen = set()
        for _ in range(60):
            trail = trail_with_falls(chance, 2, [[5]], 13, 0.4)
            falls = falls_by_trying(2, [[5]], trail)
            self.told(2, [[5]], trail, None, falls)
            seen.add(len(falls[0]) + len(falls[1]))
        self.assertTrue({0, 1, 2, 3} <= seen)

    def test_rings_and_falls_by_trying_all_lists_of_falls(self):
        # Both hands up to the taker's sleep and the giver's ring, then a few touches with many falls.
        chance = random.Random(281)
        for _ in range(40):
            lane = lane_at_ring(2)
            start = len(lane.trail())
            for _ in range(7):
                if chance.random() < 0.5:
                    lane.fall("giver")
                lane.step("giver")
            trail = lane.trail()
            asked = None
            for row in rising_lists(list(range(start, len(trail)))):
                if asked is None and explained_by(2, [[7]], trail, [row, []]):
                    asked = (row, [])
            self.told(2, [[7]], trail, None, asked)

    def test_woven_runs_with_falls(self):
        chance = random.Random(282)
        many = 0
        for size in SIZES:
            for falls in (0.01, 0.05, 0.3):
                orders = [[number] * (1 + number % size) for number in range(6)]
                trail = trail_with_falls(chance, size, orders, 250, falls)
                wrong, told = self.told_as_second(size, orders, trail)
                self.assertIsNone(wrong)
                many += len(told[0]) + len(told[1])
                self.assertTrue(explained_by(size, orders, trail, told))
        self.assertGreater(many, 200)

    def test_trails_cut_anywhere(self):
        chance = random.Random(283)
        for size in (2, 3):
            orders = [[1, 2], [3], [4]]
            trail = trail_with_falls(chance, size, orders, 160, 0.08)
            for many in range(len(trail) + 1):
                self.told_as_second(size, orders, trail[:many])

    def test_orders_handed_in_meanwhile(self):
        chance = random.Random(284)
        for size in (2, 5):
            watched = Watched(self, Lane(size), Model(size))
            woven(chance, watched, 500, 0.02, 0.05)
            wrong, falls = self.told_as_second(size, watched.lane.orders(), watched.lane.trail())
            self.assertIsNone(wrong)
            self.assertGreater(len(falls[0]) + len(falls[1]), 3)

    def test_one_touch_changed(self):
        chance = random.Random(285)
        wrongs = {}
        for size, orders in ((2, [[1, 2], [3]]), (3, [[4], [5, 6, 7]])):
            trail = trail_with_falls(chance, size, orders, 70, 0.06)
            for at, (hand, deed, cell, value) in enumerate(trail):
                other = HANDS[1 - HANDS.index(hand)]
                turned = "write" if deed == "read" else "read"
                changed = [
                    (other, deed, cell, value), ("asker", deed, cell, value), (hand, turned, cell, value),
                    (hand, "wrote", cell, value), (hand, deed, cell + 1, value), (hand, deed, -1, value),
                    (hand, deed, cell, value + 1), (hand, deed, cell, -HUGE),
                    (hand, "write", 4 * size + 3 - HANDS.index(hand), 1),
                    (hand, "write", 4 * size + HANDS.index(hand), -1),
                ]
                rows = [trail[:at] + [touch] + trail[at + 1:] for touch in changed]
                rows += [trail[:at] + trail[at + 1:], trail[:at + 1] + trail[at:]]
                if at + 1 < len(trail):
                    rows.append(trail[:at] + [trail[at + 1], trail[at]] + trail[at + 2:])
                for row in rows:
                    wrong, falls = self.told_as_second(size, orders, row)
                    wrongs[None if wrong is None else wrong - at] = True
        # The fault is told where it first shows: at the touch itself, or later.
        self.assertTrue(all(far in wrongs for far in (None, 0, 1, 2, 3)), sorted(map(str, wrongs)))

    def test_a_hand_that_is_none(self):
        trail = trail_with_falls(random.Random(1), 2, [[1]], 40, 0)
        for hand in ("", "Giver", "asker", "house", "giver "):
            self.told(2, [[1]], trail + [(hand, "read", 0, 2)], len(trail), None)
            self.told(2, [[1]], [(hand, "write", 11, 1)] + trail, 0, None)

    def test_other_orders(self):
        orders = [[1, 2], [3], [4, 5]]
        trail = trail_with_falls(random.Random(286), 3, orders, 500, 0.02)
        self.assertIsNone(self.told_as_second(3, orders, trail)[0])
        for other in ([], [[1, 2]], [[3], [1, 2], [4, 5]], [[1, 2], [3], [4, 6]], [[1, 2, 3]]):
            self.assertIsNotNone(self.told_as_second(3, other, trail)[0])
        self.assertIsNone(self.told_as_second(3, orders + [[6]], trail)[0])
        self.assertEqual(self.told_as_second(4, orders, trail)[0], 0)

    def test_falls_of_the_one_hand_do_not_hang_on_the_other(self):
        chance = random.Random(287)
        for _ in range(10):
            trail = trail_with_falls(chance, 3, [[1], [2, 3]], 120, 0.05)
            giver, taker = falls_of(3, [[1], [2, 3]], trail)
            self.assertTrue(explained_by(3, [[1], [2, 3]], trail, [giver, taker]))
            for numbers, hand in ((giver, "giver"), (taker, "taker")):
                self.assertEqual(numbers, sorted(set(numbers)))
                self.assertTrue(all(trail[number][0] == hand for number in numbers))

    def test_lists_told_are_the_askers_own(self):
        trail = trail_with_falls(random.Random(288), 2, [[1]], 200, 0.1)
        one, other = falls_of(2, [[1]], trail), falls_of(2, [[1]], trail)
        self.assertEqual(len({id(row) for row in one + other}), 4)
        one[0].clear()
        one[1].append(7)
        self.assertEqual(falls_of(2, [[1]], trail), other)
        none = falls_of(2, [], [])
        self.assertIsNot(none[0], none[1])

    def test_long_trails(self):
        chance = random.Random(289)
        orders = [[number, -number] for number in range(300)]
        trail = trail_with_falls(chance, 8, orders, 40000, 0.002)
        self.assertIsNone(first_wrong(8, orders, trail))
        falls = falls_of(8, orders, trail)
        self.assertTrue(explained_by(8, orders, trail, falls))
        self.assertGreater(len(falls[0]) + len(falls[1]), 40)
        self.told(8, orders, trail + [("giver", "read", 3, 17)], len(trail), None)

    def test_refusals(self):
        trail = trail_with_falls(random.Random(1), 2, [[1]], 40, 0.1)
        for deed in (first_wrong, falls_of):
            for size in BAD_SIZES:
                self.refused(BadSize, deed, size, [[1]], trail)
                self.refused(BadSize, deed, size, [[]], [("nobody", "", 0, 0)])
            for size in SIZES:
                for bad in bad_orders(size):
                    self.refused(BadOrder, deed, size, [bad], [])
                    self.refused(BadOrder, deed, size, [[1], bad, [2]], [("nobody", "", 0, 0)])
                    self.refused(BadOrder, deed, size, [[1]] * 5 + [bad], trail)
