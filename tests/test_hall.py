"""Points 30 to 32, and point 3 of the hall: house and shop, orders done in any order, answers heard."""

import random

from slipring import hall as hall_module
from slipring.errors import BadOrder, BadSize, NoHand, NoWaiting
from slipring.hall import Hall
from slipring.looks import sound_board
from tests.helper import BAD_HANDS, BAD_SIZES, HUGE, SIZES, Model, RingTest, bad_orders

FOUR = ["asker", "doer", "teller", "hearer"]
# For each hand the board, 0 out and 1 back, and whether it gives there, 0, or takes, 1.
WORK = {"asker": (0, 0), "doer": (0, 1), "teller": (1, 0), "hearer": (1, 1)}
SIDES = {"house": ["asker", "hearer"], "shop": ["doer", "teller"]}


def all_told(hall):
    return (
        [hall.stage(hand) for hand in FOUR], hall.waiting(), hall.shelves(), hall.done(), hall.told(), hall.heard(),
        hall.quiet(), hall.out_cells(), hall.back_cells(),
    )


def step_by_turns(hall, many):
    for at in range(many):
        hall.step(FOUR[at % 4])


def settled(hall):
    """Step all four by turns until nothing changes, doing what waits."""
    for _ in range(100000):
        if hall.quiet():
            return
        step_by_turns(hall, 4)
        if hall.waiting():
            hall.do(0)
    raise AssertionError("the hall never comes to rest")


class WatchedHall:
    """A hall, and two models beside it with shelves of their own."""

    def __init__(self, test, out_size, back_size):
        self.test, self.hall = test, Hall(out_size, back_size)
        self.models = [Model(out_size), Model(back_size)]
        self.sums, self.finished = {0: 0, 1: 0, 2: 0, 3: 0}, []
        self.check()

    def ask(self, order):
        self.models[0].orders.append(list(order))
        self.test.same_number(self.hall.ask(order), len(self.models[0].orders) - 1)
        self.check()

    def step(self, hand):
        board, own = WORK[hand]
        touch = self.models[board].step(own)
        self.test.assertIs(self.hall.step(hand), touch is not None)
        self.check()

    def fall(self, side):
        for hand in SIDES[side]:
            board, own = WORK[hand]
            self.models[board].fall(own)
        self.test.assertIsNone(self.hall.fall(side))
        self.check()

    def waiting(self):
        return [number for number in range(len(self.models[0].book)) if number not in self.finished]

    def do(self, place):
        number = self.waiting()[place]
        first, *further = self.models[0].orders[number]
        for shelf in self.sums:
            if (first - shelf) % 4 == 0:
                self.sums[shelf] += sum(further)
                self.models[1].orders.append([number, self.sums[shelf]])
        self.finished.append(number)
        self.test.same_number(self.hall.do(place), number)
        self.check()

    def check(self):
        test, hall, (out, back) = self.test, self.hall, self.models
        test.assertEqual((hall.out_cells(), hall.back_cells()), (out.cells, back.cells))
        for hand in FOUR:
            board, own = WORK[hand]
            test.assertEqual(hall.stage(hand), self.models[board].minds[own].stage)
        test.assertEqual(hall.waiting(), self.waiting())
        test.assertEqual(hall.done(), self.finished)
        test.assertEqual(hall.shelves(), [self.sums[shelf] for shelf in range(4)])
        test.assertEqual(hall.told(), [tuple(answer) for answer in back.orders])
        test.assertEqual(hall.heard(), [tuple(answer) for answer in back.book])
        test.assertIs(hall.quiet(), self.waiting() == [] and out.quiet() and back.quiet())
        # What point 3 promises of the hall.
        test.assertEqual(len(set(hall.done())), len(hall.done()))
        test.assertEqual(hall.heard(), hall.told()[:len(hall.heard())])
        test.assertEqual([number for number, shelf in hall.told()], hall.done())

    def settle(self, chance):
        for _ in range(20000):
            if self.hall.quiet():
                break
            for hand in FOUR:
                self.step(hand)
            if self.waiting():
                self.do(chance.randrange(len(self.waiting())))
        self.test.assertIs(self.hall.quiet(), True)
        self.test.assertEqual(sorted(self.hall.done()), list(range(len(self.models[0].orders))))
        self.test.assertEqual(self.hall.heard(), self.hall.told())
        self.test.assertTrue(sound_board(self.hall.out_cells()) and sound_board(self.hall.back_cells()))


def weave(chance, watched, many, falls, asks, does, leaning=(1, 1, 1, 1)):
    size = watched.models[0].size
    for _ in range(many):
        if chance.random() < falls:
            watched.fall(chance.choice(["house", "shop"]))
        if chance.random() < asks:
            parts = chance.randrange(1, size + 1)
            watched.ask([chance.choice([HUGE, -HUGE, chance.randrange(-20, 20)]) for _ in range(parts)])
        if watched.waiting() and chance.random() < does:
            watched.do(chance.randrange(len(watched.waiting())))
        watched.step(chance.choices(FOUR, leaning)[0])


class NewHallTest(RingTest):
    def test_names_and_arguments(self):
        self.same_arguments(hall_module, {"Hall": ["out_size", "back_size"]})
        asked = {
            "ask": ["order"], "step": ["hand"], "stage": ["hand"], "fall": ["side"], "waiting": [], "do": ["place"],
            "shelves": [], "done": [], "told": [], "heard": [], "quiet": [], "out_cells": [], "back_cells": [],
        }
        self.same_arguments(Hall, asked)

    def test_a_new_hall(self):
        for out_size in SIZES:
            for back_size in SIZES:
                hall = Hall(out_size, back_size)
                self.assertEqual(hall.out_cells(), [2, -1, 0, 0] * out_size + [-1, -1, 0, 0])
                self.assertEqual(hall.back_cells(), [2, -1, 0, 0] * back_size + [-1, -1, 0, 0])
                self.assertEqual([hall.stage(hand) for hand in FOUR], ["rouse"] * 4)
                self.assertEqual((hall.waiting(), hall.done(), hall.told(), hall.heard()), ([], [], [], []))
                self.assertEqual(hall.shelves(), [0, 0, 0, 0])
                self.assertIs(hall.quiet(), False)

    def test_sizes_that_are_none(self):
        for bad in BAD_SIZES:
            self.refused(BadSize, Hall, bad, 3)
            self.refused(BadSize, Hall, 3, bad)
            self.refused(BadSize, Hall, bad, bad)

    def test_halls_have_nothing_in_common(self):
        one, other = Hall(2, 3), Hall(2, 3)
        told = all_told(other)
        one.ask([1, 2])
        settled(one)
        one.fall("shop")
        self.assertEqual(all_told(other), told)
        self.assertEqual(all_told(Hall(2, 3)), told)


class HandsTest(RingTest):
    def test_which_hand_touches_which_board(self):
        for hand, (board, own) in WORK.items():
            hall = Hall(2, 2)
            self.assertIs(hall.step(hand), True)
            self.assertEqual([hall.stage(one) for one in FOUR], ["clear" if one == hand else "rouse" for one in FOUR])
            cells = [hall.out_cells(), hall.back_cells()]
            self.assertEqual(cells[1 - board], [2, -1, 0, 0, 2, -1, 0, 0, -1, -1, 0, 0])
            rung = [0, 1] if own == 0 else [1, 0]
            self.assertEqual(cells[board], [2, -1, 0, 0, 2, -1, 0, 0, -1, -1] + rung)

    def test_an_order_and_its_answer(self):
        hall = Hall(2, 2)
        self.same_number(hall.ask([6, 5]), 0)
        for _ in range(40):
            hall.step("asker")
        self.assertEqual(hall.out_cells(), [1, 0, 1, 6, 1, 0, 0, 5, -1, -1, 0, 1])
        self.assertEqual((hall.stage("asker"), hall.step("asker"), hall.waiting()), ("look", False, []))
        for _ in range(13):
            hall.step("doer")
        self.assertEqual((hall.waiting(), hall.done(), hall.stage("doer")), ([0], [], "free"))
        for _ in range(40):
            hall.step("doer")
        self.assertEqual((hall.waiting(), hall.shelves(), hall.told()), ([0], [0, 0, 0, 0], []))
        for _ in range(20):
            hall.step("teller")
        self.assertIs(hall.step("teller"), False)
        self.same_number(hall.do(0), 0)
        self.assertEqual((hall.waiting(), hall.done(), hall.shelves()), ([], [0], [0, 0, 5, 0]))
        self.assertEqual((hall.told(), hall.heard(), hall.quiet()), ([(0, 5)], [], False))
        for _ in range(20):
            hall.step("teller")
        self.assertEqual(hall.back_cells()[:8], [1, 0, 1, 0, 1, 0, 0, 5])
        self.assertEqual(hall.heard(), [])
        for _ in range(40):
            hall.step("hearer")
        self.assertEqual((hall.heard(), hall.told()), ([(0, 5)], [(0, 5)]))
        self.assertIs(hall.quiet(), True)

    def test_quiet_hangs_on_all_four_and_on_what_waits(self):
        hall = Hall(2, 2)
        for many, hand in enumerate(FOUR):
            self.assertIs(hall.quiet(), False)
            for _ in range(30):
                hall.step(hand)
        # All four came up one behind the other, so those that slept were rung once more.
        for hand in FOUR + FOUR:
            for _ in range(30):
                hall.step(hand)
        self.assertIs(hall.quiet(), True)
        hall.ask([1])
        self.assertIs(hall.quiet(), False)
        for _ in range(30):
            hall.step("asker")
        self.assertIs(hall.quiet(), False)
        for _ in range(30):
            hall.step("doer")
        self.assertEqual((hall.waiting(), hall.quiet()), ([0], False))
        stages = [hall.stage(hand) for hand in FOUR]
        self.assertEqual(stages, ["look", "sleep", "look", "sleep"])
        hall.do(0)
        self.assertIs(hall.quiet(), False)
        for hand in ("teller", "hearer"):
            for _ in range(30):
                hall.step(hand)
        self.assertEqual((hall.heard(), hall.quiet()), ([(0, 0)], True))

    def test_hands_and_sides_that_are_none(self):
        hall = Hall(3, 2)
        hall.ask([1, 2])
        step_by_turns(hall, 100)
        told = all_told(hall)
        none = [hand for hand in BAD_HANDS if hand not in ("asker", "house")] + ["giver", "taker", "Asker", "doer "]
        for hand in none + ["house", "shop"]:
            self.refused(NoHand, hall.step, hand)
            self.refused(NoHand, hall.stage, hand)
        for side in none + FOUR + ["House", "shop "]:
            self.refused(NoHand, hall.fall, side)
        self.assertEqual(all_told(hall), told)

    def test_orders_that_are_none(self):
        for size in SIZES:
            hall = Hall(size, 2)
            hall.ask([1])
            step_by_turns(hall, 30)
            told = all_told(hall)
            for bad in bad_orders(size):
                self.refused(BadOrder, hall.ask, bad)
            self.assertEqual(all_told(hall), told)
            self.same_number(hall.ask([4] * size), 1)


class ShelvesTest(RingTest):
    def done_with(self, orders):
        hall = Hall(8, 2)
        for order in orders:
            hall.ask(order)
        settled(hall)
        return hall

    def test_which_shelf_gets_what(self):
        for first in list(range(-9, 10)) + [HUGE, -HUGE]:
            hall = self.done_with([[first, 10, -3]])
            asked = [0, 0, 0, 0]
            asked[first % 4] = 7
            self.assertEqual((hall.shelves(), hall.told()), (asked, [(0, 7)]))

    def test_an_order_of_one_part_adds_nothing(self):
        hall = self.done_with([[2], [2, 5], [2], [6]])
        self.assertEqual((hall.shelves(), hall.told()), ([0, 0, 5, 0], [(0, 0), (1, 5), (2, 5), (3, 5)]))

    def test_as_many_parts_as_places(self):
        hall = self.done_with([[3, 1, 2, 3, 4, 5, 6, 7], [-1, -1, -2, -3, -4, -5, -6, -8]])
        self.assertEqual((hall.shelves(), hall.heard()), ([0, 0, 0, -1], [(0, 28), (1, -1)]))

    def test_shelves_of_more_than_sixty_figures(self):
        hall = self.done_with([[1] + [HUGE] * 7] * 20)
        self.assertEqual(hall.shelves(), [0, 140 * HUGE, 0, 0])
        self.assertEqual(hall.heard(), [(number, 7 * (number + 1) * HUGE) for number in range(20)])

    def test_done_in_any_order(self):
        hall = Hall(2, 2)
        for number in range(5):
            hall.ask([number % 2, 10 ** number])
        for _ in range(200):
            hall.step("asker")
            hall.step("doer")
        self.assertEqual(hall.waiting(), [0, 1, 2, 3, 4])
        self.same_number(hall.do(3), 3)
        self.assertEqual(hall.waiting(), [0, 1, 2, 4])
        self.same_number(hall.do(3), 4)
        self.same_number(hall.do(0), 0)
        self.same_number(hall.do(1), 2)
        self.assertEqual((hall.waiting(), hall.done()), ([1], [3, 4, 0, 2]))
        self.same_number(hall.do(0), 1)
        self.assertEqual(hall.done(), [3, 4, 0, 2, 1])
        asked = [(3, 1000), (4, 10000), (0, 10001), (2, 10101), (1, 1010)]
        self.assertEqual((hall.told(), hall.heard()), (asked, []))
        self.assertEqual(hall.shelves(), [10101, 1010, 0, 0])
        settled(hall)
        self.assertEqual(hall.heard(), asked)

    def test_places_at_which_nothing_waits(self):
        hall = Hall(2, 2)
        for place in (0, 1, -1, HUGE):
            self.refused(NoWaiting, hall.do, place)
        for number in range(3):
            hall.ask([number, 1])
        for _ in range(200):
            hall.step("asker")
            hall.step("doer")
        hall.do(1)
        told = all_told(hall)
        for place in (2, 3, 4, -1, -2, -3, HUGE, -HUGE):
            self.refused(NoWaiting, hall.do, place)
        self.assertEqual(all_told(hall), told)


class FallTest(RingTest):
    def test_what_a_side_has_for_good_stays(self):
        for side in SIDES:
            for moment in range(0, 400, 3):
                hall = Hall(2, 3)
                for number in range(4):
                    hall.ask([number] * (1 + number % 2))
                for at in range(moment):
                    hall.step(FOUR[at % 4])
                    if at % 50 == 49 and hall.waiting():
                        hall.do(len(hall.waiting()) - 1)
                before = all_told(hall)
                self.assertIsNone(hall.fall(side))
                after = all_told(hall)
                self.assertEqual(after[1:6] + after[7:], before[1:6] + before[7:])
                for hand, was, now in zip(FOUR, before[0], after[0]):
                    self.assertEqual(now, "rouse" if hand in SIDES[side] else was)
                self.assertIs(hall.quiet(), False)
                settled(hall)
                self.assertEqual(sorted(hall.done()), [0, 1, 2, 3])
                self.assertEqual(hall.heard(), hall.told())

    def test_the_answers_of_a_shop_that_fell_are_told_once(self):
        hall = Hall(2, 2)
        for number in range(6):
            hall.ask([number, number])
        settled(hall)
        told = hall.told()
        for _ in range(5):
            hall.fall("shop")
            hall.fall("house")
            settled(hall)
        self.assertEqual((hall.told(), hall.heard(), hall.done()), (told, told, [0, 1, 2, 3, 4, 5]))


class WovenHallTest(RingTest):
    def test_any_row_of_steps_falls_and_orders(self):
        chance = random.Random(30)
        for out_size, back_size in ((2, 2), (2, 8), (3, 2), (8, 3), (5, 4), (8, 8)):
            for falls in (0, 0.01, 0.05):
                for leaning in ((1, 1, 1, 1), (4, 1, 1, 1), (1, 3, 3, 1), (3, 3, 1, 1)):
                    watched = WatchedHall(self, out_size, back_size)
                    weave(chance, watched, 200, falls, 0.03, 0.3, leaning)
                    watched.settle(chance)

    def test_a_fall_of_each_side_at_each_moment(self):
        chance = random.Random(31)
        for side in SIDES:
            for moment in range(0, 160, 2):
                watched = WatchedHall(self, 2, 2)
                watched.ask([5, 6])
                watched.ask([-5])
                for at in range(160):
                    if at == moment:
                        watched.fall(side)
                    watched.step(FOUR[at % 4])
                    if watched.waiting() and at % 7 == 0:
                        watched.do(chance.randrange(len(watched.waiting())))
                watched.settle(chance)

    def test_all_that_waits_is_done_at_last(self):
        chance = random.Random(32)
        watched = WatchedHall(self, 4, 2)
        weave(chance, watched, 1500, 0.01, 0.02, 0)
        self.assertGreater(len(watched.waiting()), 8)
        self.assertIs(watched.hall.quiet(), False)
        watched.settle(chance)

    def test_hundreds_of_orders(self):
        chance = random.Random(33)
        hall, sums = Hall(8, 8), [0] * 4
        asked = []
        for number in range(300):
            order = [chance.randrange(-50, 50) for _ in range(chance.randrange(1, 9))]
            self.same_number(hall.ask(order), number)
            asked.append(order)
        answers = []
        for at in range(150000):
            if hall.quiet() and at > 1000:
                break
            hall.step(FOUR[at % 4])
            if chance.random() < 0.0005:
                hall.fall(chance.choice(["house", "shop"]))
            if at % 97 == 0 and hall.waiting():
                waiting = hall.waiting()
                place = chance.randrange(len(waiting))
                order = asked[waiting[place]]
                sums[order[0] % 4] += sum(order[1:])
                answers.append((waiting[place], sums[order[0] % 4]))
                hall.do(place)
        settled(hall)
        self.assertEqual(len(answers), len(hall.told()))
        self.assertEqual((hall.told(), hall.heard(), hall.shelves()), (answers, answers, sums))
        self.assertEqual(sorted(hall.done()), list(range(300)))


class OwnListsTest(RingTest):
    def test_what_is_handed_in_is_not_kept(self):
        hall = Hall(3, 2)
        order = [1, 2, 3]
        hall.ask(order)
        order[1] = 50
        order.append(9)
        settled(hall)
        self.assertEqual((hall.told(), order), ([(0, 5)], [1, 50, 3, 9]))

    def test_what_is_told_is_the_askers_own(self):
        hall = Hall(3, 2)
        for number in range(6):
            hall.ask([number, number])
        for at in range(1000):
            hall.step(FOUR[at % 4])
            if at in (200, 300):
                hall.do(0)
        told = all_told(hall)
        self.assertEqual((len(hall.waiting()), len(hall.done()), len(hall.heard())), (4, 2, 2))
        for deed in (
            hall.waiting, hall.shelves, hall.done, hall.told, hall.heard, hall.out_cells, hall.back_cells,
        ):
            one, other = deed(), deed()
            self.assertIs(type(one), list)
            self.assertIsNot(one, other)
            one[0] = 77
            one.append(5)
            self.assertEqual(deed(), other)
        self.assertEqual(all_told(hall), told)
        for pair in hall.told() + hall.heard():
            self.assertEqual([type(pair), type(pair[0]), type(pair[1])], [tuple, int, int])
        hall.do(0)
        step_by_turns(hall, 200)
        self.assertNotEqual(all_told(hall), told)
        self.assertEqual(told[1], [2, 3, 4, 5])
