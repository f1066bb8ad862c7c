"""Point 29: all weavings of small rings, counted a second time, and the least row to a quiet stand."""

import itertools

from slipring import weavings
from slipring.errors import BadOrder, BadSize, TooMany
from slipring.stands import stand_of
from slipring.weavings import Weavings
from tests.helper import BAD_SIZES, HANDS, HUGE, SIZES, RingTest, bad_orders, lane_of, model_at, model_with


def orders_of_parts(size, parts):
    """All ways to make orders of so many parts in all, each with parts of its own."""
    if parts == 0:
        return [[]]
    rows = []
    for many in range(1, min(size, parts) + 1):
        for rest in orders_of_parts(size, parts - many):
            rows.append([[10 * parts + at for at in range(many)]] + rest)
    return rows


def behind(stand, own, deed):
    model = model_at(stand)
    if deed == "fall":
        model.fall(own)
    else:
        model.step(own)
    return model.stand()


class Graph:
    """All stands with the falls that are left, gone through from the last one found on."""

    def __init__(self, size, orders, falls):
        self.new = (model_with(size, orders).stand(), falls)
        self.steps = {}
        ahead = [self.new]
        while ahead:
            here = ahead.pop()
            if here in self.steps:
                continue
            stand, left = here
            self.steps[here] = [(behind(stand, own, "step"), left) for own in (0, 1)]
            ahead += self.steps[here]
            if left > 0:
                ahead += [(behind(stand, own, "fall"), left - 1) for own in (0, 1)]
        self.stands = {stand for stand, left in self.steps}
        self.quiet = {stand for stand in self.stands if model_at(stand).quiet()}

    def far(self):
        """How far each stand is from a quiet one, by steps alone: from the quiet ones backwards."""
        ahead_of = {}
        for here, there in self.steps.items():
            for one in there:
                ahead_of.setdefault(one, []).append(here)
        row = [here for here in self.steps if here[0] in self.quiet]
        far = {here: 0 for here in row}
        for here in row:
            for one in ahead_of.get(here, []):
                if one not in far:
                    far[one] = far[here] + 1
                    row.append(one)
        return far

    def least(self):
        """Always to the giver's side where it leads as soon to a quiet stand as the taker's."""
        far, here, row = self.far(), self.new, []
        while far[here] > 0:
            own = 0 if far.get(self.steps[here][0]) == far[here] - 1 else 1
            row.append(HANDS[own])
            here = self.steps[here][own]
        return row


class WeavingsTest(RingTest):
    def told(self, size, orders, falls):
        kept = [list(order) for order in orders]
        told, graph = Weavings(size, orders, falls), Graph(size, orders, falls)
        self.same_number(told.many(), len(graph.stands))
        self.same_number(told.many_quiet(), len(graph.quiet))
        self.assertEqual(told.least(), graph.least())
        self.assertEqual(orders, kept)
        return told

    def quiet_behind(self, size, orders, row):
        lane = lane_of(size, orders)
        for hand in row:
            lane.step(hand)
        return lane.quiet()

    def test_names_and_arguments(self):
        self.same_arguments(weavings, {"Weavings": ["size", "orders", "falls"]})
        self.same_arguments(Weavings, {"many": [], "many_quiet": [], "least": []})

    def test_all_that_is_let_by_without_a_fall(self):
        for size in (2, 3):
            for parts in range(4):
                for orders in orders_of_parts(size, parts):
                    self.told(size, orders, 0)

    def test_all_that_is_let_by_with_a_fall(self):
        for size in (2, 3):
            for orders in ([], [[5]]):
                self.told(size, orders, 1)

    def test_parts_that_are_alike_below_nought_and_long(self):
        for orders in ([[0]], [[7], [7], [7]], [[7, 7], [7]], [[-1], [0, -1]], [[HUGE], [-HUGE]], [[2, -1]]):
            self.told(2, orders, 0)
        for thing in (0, -1, HUGE, -HUGE):
            self.told(2, [[thing]], 1)

    def test_counts_of_the_smallest_ring(self):
        told = Weavings(2, [], 0)
        self.assertEqual((told.many(), told.many_quiet()), (168, 2))
        self.assertEqual(told.least(), ["giver"] * 7 + ["taker"] * 8)

    def test_a_fall_leads_to_more_stands_and_to_no_nearer_quiet(self):
        for size in (2, 3):
            for orders in ([], [[5]]):
                without, with_one = Weavings(size, orders, 0), Weavings(size, orders, 1)
                self.assertGreater(with_one.many(), without.many())
                self.assertGreaterEqual(with_one.many_quiet(), without.many_quiet())
                self.assertEqual(with_one.least(), without.least())

    def test_the_least_row_leads_to_a_quiet_stand_and_no_shorter_one_does(self):
        for size, orders in ((2, []), (2, [[1]]), (3, [[1], [2]]), (2, [[1, 2], [3]]), (3, [[1, 2, 3]])):
            row = Weavings(size, orders, 0).least()
            self.assertTrue(self.quiet_behind(size, orders, row))
            for many in range(len(row)):
                self.assertFalse(self.quiet_behind(size, orders, row[:many]))

    def test_the_least_row_by_trying_all_rows_of_its_length(self):
        # With no orders the giver comes to rest in 5 + size steps, and the taker sleeps behind 6 + size.
        row = Weavings(2, [], 0).least()
        givers = row.count("giver")
        rows = []
        for places in itertools.combinations(range(len(row)), givers):
            other = ["giver" if at in places else "taker" for at in range(len(row))]
            if self.quiet_behind(2, [], other):
                rows.append(other)
        self.assertEqual(min(rows), row)

    def test_what_is_told_is_the_askers_own(self):
        orders = [[1]]
        told = Weavings(2, orders, 1)
        many, quiet, row = told.many(), told.many_quiet(), told.least()
        orders[0][0] = 5
        orders.append([6])
        other = told.least()
        self.assertIsNot(row, other)
        self.assertEqual([type(row), type(row[0])], [list, str])
        row.clear()
        self.assertEqual((told.many(), told.many_quiet(), told.least()), (many, quiet, other))
        self.assertEqual(Weavings(2, [[1]], 1).many(), many)


class TooManyTest(RingTest):
    def test_too_many_parts(self):
        for size in (2, 3):
            for orders in ([[1], [2], [3], [4]], [[1, 2], [3, 4]], [[1]] * 300, [[1, 2], [3], [4]]):
                self.refused(TooMany, Weavings, size, orders, 0)
            for orders in ([[1], [2]], [[1, 2]], [[1], [2, 3]], [[1], [2], [3], [4]]):
                self.refused(TooMany, Weavings, size, orders, 1)

    def test_other_sizes(self):
        for size in range(4, 9):
            for orders in ([], [[1]], [[1]] * 4, [[1] * size]):
                for falls in (0, 1, 2):
                    self.refused(TooMany, Weavings, size, orders, falls)

    def test_other_counts_of_falls(self):
        for size in (2, 3):
            for falls in (-1, 2, 3, -2, HUGE, -HUGE):
                for orders in ([], [[1]], [[1]] * 5):
                    self.refused(TooMany, Weavings, size, orders, falls)

    def test_sizes_that_are_none_go_first(self):
        for size in BAD_SIZES:
            for orders in ([], [[1]], [[]], [[1]] * 9):
                for falls in (0, 1, 2, -1):
                    self.refused(BadSize, Weavings, size, orders, falls)

    def test_orders_that_are_none_go_ahead_of_too_many(self):
        for size in SIZES:
            for bad in bad_orders(size):
                for falls in (0, 1, 2, -1):
                    self.refused(BadOrder, Weavings, size, [bad], falls)
                    self.refused(BadOrder, Weavings, size, [[1], [2], [3], [4], bad], falls)

    def test_lanes_are_left_as_they_are(self):
        lane = lane_of(2, [[1]])
        told = stand_of(lane)
        Weavings(2, lane.orders(), 1)
        self.refused(TooMany, Weavings, 2, lane.orders() * 4, 0)
        self.assertEqual(stand_of(lane), told)
