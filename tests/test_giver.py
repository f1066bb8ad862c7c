"""Points 13, 14, 15 and 19: what a giver has, what it gives next, and how it gives."""

from slipring import giver as giver_module
from slipring.board import Board, board_of
from slipring.errors import BadOrder
from slipring.giver import Giver
from tests.helper import HUGE, SIZES, RingTest, bad_orders, board_at, step_to

ORDERS = [[10], [20, 21, 22], [30, 31], [40]]


def giver_up(size, orders, taker=0, giver=0, slips=()):
    """A board at these turns, and a giver that has come up there."""
    board = board_at(size, taker, giver, slips)
    hand = Giver(board, orders)
    step_to(hand, "look")
    return board, hand


def given(board, giver):
    """What the giver writes to the place of its turn, from look on: number, left, thing and mark."""
    cell = 4 * (giver.turn() % board.size)
    step_to(giver, "card")
    cells = board.all_cells()
    return tuple(cells[cell + 1:cell + 4] + [cells[cell]])


class OrdersTest(RingTest):
    def test_names_and_arguments(self):
        self.same_arguments(giver_module, {"Giver": ["board", "orders"]})
        asked = {"add": ["order"], "orders": [], "step": [], "stage": [], "turn": [], "still": []}
        self.same_arguments(Giver, asked)

    def test_orders_are_numbered_as_they_were_handed_in(self):
        giver = Giver(Board(3), ORDERS)
        self.assertEqual(giver.orders(), ORDERS)
        self.same_number(giver.add([5, 6]), 4)
        self.same_number(giver.add([5, 6]), 5)
        self.assertEqual(giver.orders(), ORDERS + [[5, 6], [5, 6]])
        self.assertEqual(Giver(Board(2), []).orders(), [])
        self.same_number(Giver(Board(2), []).add([7]), 0)

    def test_orders_from_one_part_to_as_many_as_places(self):
        for size in SIZES:
            giver = Giver(Board(size), [[7] * many for many in range(1, size + 1)])
            for many in range(1, size + 1):
                self.assertEqual(giver.add([HUGE] * many), size + many - 1)
            self.assertEqual(len(giver.orders()), 2 * size)

    def test_refused_orders_at_any_place(self):
        self.refuses_bad_orders(Giver)

    def test_a_refused_order_is_not_added(self):
        for size in SIZES:
            board, giver = giver_up(size, [[4]])
            touches = board.touches()
            for bad in bad_orders(size):
                self.refused(BadOrder, giver.add, bad)
            self.assertEqual(giver.orders(), [[4]])
            self.assertEqual((giver.stage(), giver.still(), board.touches()), ("look", False, touches))
            self.assertEqual(giver.add([5]), 1)

    def test_what_is_handed_in_is_left_and_not_kept(self):
        orders, order = [[1], [2, 3]], [4]
        board = Board(2)
        giver = Giver(board, orders)
        giver.add(order)
        orders[1][0] = 9
        orders[0].clear()
        orders.append([8])
        order[0] = 7
        self.assertEqual(giver.orders(), [[1], [2, 3], [4]])
        step_to(giver, "look")
        self.assertEqual(given(board, giver), (0, 0, 1, 1))
        self.assertEqual((orders, order), ([[], [9, 3], [8]], [7]))

    def test_what_is_told_is_the_askers_own(self):
        same = [6]
        giver = Giver(Board(2), [same, same])
        told, other = giver.orders(), giver.orders()
        lists = [told, other] + told + other
        self.assertEqual(len({id(one) for one in lists}), 6)
        told[0].append(1)
        told[1].clear()
        told.clear()
        self.assertEqual(other, [[6], [6]])
        giver.add([2])
        self.assertEqual(other, [[6], [6]])
        self.assertEqual(giver.orders(), [[6], [6], [2]])


class GivingTest(RingTest):
    def test_each_step_of_giving_on_a_new_board(self):
        board, giver = giver_up(2, [[70, -71], [HUGE]])
        self.walks(board, giver, [
            ("look", "read", 0, 2, "number"),
            ("number", "write", 1, 0, "left"),
            ("left", "write", 2, 1, "thing"),
            ("thing", "write", 3, 70, "mark"),
            ("mark", "write", 0, 1, "card"),
        ])
        self.assertEqual(giver.turn(), 0)
        self.walks(board, giver, [("card", "read", 9, -1, "look")])
        self.assertEqual(giver.turn(), 1)
        self.walks(board, giver, [
            ("look", "read", 4, 2, "number"),
            ("number", "write", 5, 0, "left"),
            ("left", "write", 6, 0, "thing"),
            ("thing", "write", 7, -71, "mark"),
            ("mark", "write", 4, 1, "card"),
            ("card", "read", 9, -1, "look"),
            ("look", "read", 0, 1, "wish"),
        ])
        self.assertEqual(giver.turn(), 2)

    def test_each_step_of_giving_in_the_second_lap(self):
        board, giver = giver_up(2, [[70, -71], [HUGE]], 2, 2, [(1, 0, 0, -71)])
        self.walks(board, giver, [
            ("look", "read", 0, 0, "number"),
            ("number", "write", 1, 1, "left"),
            ("left", "write", 2, 0, "thing"),
            ("thing", "write", 3, HUGE, "mark"),
            ("mark", "write", 0, 3, "card"),
            ("card", "read", 9, -1, "look"),
        ])
        self.assertEqual((giver.turn(), giver.still()), (3, True))

    def test_the_taker_is_rung_where_its_card_has_the_givers_turn(self):
        for size in SIZES:
            for turn in range(2 * size):
                for card in range(-1, 2 * size):
                    board, giver = giver_up(size, [[1], [2]], turn, turn, [(turn - 1, 0, 0, 1)])
                    board.write(4 * size + 1, card)
                    step_to(giver, "card")
                    then = "ring" if card == turn else "look"
                    self.walks(board, giver, [("card", "read", 4 * size + 1, card, then)])
                    if then == "ring":
                        self.assertEqual(giver.turn(), turn)
                        self.walks(board, giver, [("ring", "write", 4 * size + 3, 1, "look")])
                    self.assertEqual(giver.turn(), (turn + 1) % (2 * size))
                    self.assertIs(giver.still(), True)

    def test_it_looks_where_it_may_give_and_where_not(self):
        for size in SIZES:
            for turn in range(2 * size):
                for mark in range(4):
                    board, giver = giver_up(size, [[1], [2]], turn, turn, [(turn - 1, 0, 0, 1)])
                    board.write(4 * (turn % size), mark)
                    then = "number" if mark == (2 if turn < size else 0) else "wish"
                    self.walks(board, giver, [("look", "read", 4 * (turn % size), mark, then)])

    def test_all_parts_round_the_ring(self):
        for size in SIZES:
            orders = [[100 * number + part for part in range(1 + number % size)] for number in range(20)]
            asked = [
                (number, len(order) - 1 - part, thing)
                for number, order in enumerate(orders) for part, thing in enumerate(order)
            ]
            board, giver = giver_up(size, orders)
            for many, slip in enumerate(asked):
                turn = many % (2 * size)
                self.assertEqual(giver.turn(), turn)
                self.assertEqual(given(board, giver), slip + (1 if turn < size else 3,))
                # Freed at once, so that the ring is never full.
                board.write(4 * (turn % size), 0 if turn < size else 2)
                step_to(giver, "look")
            self.assertIs(giver.still(), True)

    def test_it_gives_until_the_ring_is_full(self):
        for size in SIZES:
            board, giver = giver_up(size, [[5] * size, [6]])
            step_to(giver, "sleep")
            asked = []
            for place in range(size):
                asked += [1, 0, size - 1 - place, 5]
            self.assertEqual(board.all_cells(), asked + [size, -1, 0, 1])
            self.assertEqual(giver.turn(), size)


class RestTest(RingTest):
    def test_at_rest_it_touches_nothing(self):
        for size in SIZES:
            board, giver = giver_up(size, [])
            touches, cells = board.touches(), board.all_cells()
            for _ in range(10):
                self.assertIs(giver.step(), False)
                self.assertEqual((giver.stage(), giver.turn()), ("look", 0))
            self.assertEqual((board.touches(), board.all_cells()), (touches, cells))

    def test_orders_added_while_it_rests_wake_it(self):
        board, giver = giver_up(2, [])
        self.assertIs(giver.step(), False)
        self.assertEqual(giver.add([8, 9]), 0)
        self.walks(board, giver, [
            ("look", "read", 0, 2, "number"),
            ("number", "write", 1, 0, "left"),
            ("left", "write", 2, 1, "thing"),
            ("thing", "write", 3, 8, "mark"),
        ])
        step_to(giver, "look")
        self.assertIs(giver.still(), False)
        step_to(giver, "look", least=1)
        self.assertEqual((giver.turn(), giver.still()), (2, True))
        self.assertEqual(giver.add([1]), 1)
        self.walks(board, giver, [("look", "read", 0, 1, "wish")])

    def test_orders_added_at_each_step(self):
        for size in SIZES:
            for many in range(size + 5 + 7):
                board = Board(size)
                giver = Giver(board, [[1]])
                for _ in range(many):
                    giver.step()
                self.assertEqual(giver.add([2, 3]), 1)
                step_to(giver, "look", least=max(0, size + 5 + 6 - many))
                self.assertEqual(giver.turn(), 1)
                self.assertEqual(given(board, giver), (1, 1, 2, 1))


class NextPartTest(RingTest):
    def test_told_and_lacks_read_the_place_of_the_turn_ahead(self):
        for size in SIZES:
            for turn in range(2 * size):
                place = (turn - 1) % size
                for number, left in ((-1, 0), (0, 0), (1, 1), (3, 0)):
                    board = board_at(size, turn, turn, [(turn - 1, number, left, 77)])
                    giver = Giver(board, [[1], [2, 3], [4], [5]])
                    step_to(giver, "told")
                    self.assertEqual(giver.turn(), turn)
                    self.walks(board, giver, [
                        ("told", "read", 4 * place + 1, number, "lacks"),
                        ("lacks", "read", 4 * place + 2, left, "look"),
                    ])
                    self.assertEqual(giver.turn(), turn)

    def test_which_part_comes_next(self):
        asked = {
            (-1, 0): (0, 0, 10),
            (-1, 1): (0, 0, 10),
            (-1, 2): (0, 0, 10),
            (0, 0): (1, 2, 20),
            (1, 2): (1, 1, 21),
            (1, 1): (1, 0, 22),
            (1, 0): (2, 1, 30),
            (2, 1): (2, 0, 31),
            (2, 0): (3, 0, 40),
        }
        for size in range(3, 9):
            for turn in range(2 * size):
                for (number, left), slip in asked.items():
                    board, giver = giver_up(size, ORDERS, turn, turn, [(turn - 1, number, left, 77)])
                    self.assertEqual(given(board, giver), slip + (1 if turn < size else 3,))

    def test_no_part_comes_behind_the_last_one(self):
        for size in range(3, 9):
            for turn in range(2 * size):
                board, giver = giver_up(size, ORDERS, turn, turn, [(turn - 1, 3, 0, 40)])
                self.assertEqual((giver.step(), giver.still()), (False, True))
                self.assertEqual(giver.add([50, 51]), 4)
                self.assertEqual(given(board, giver), (4, 1, 50, 1 if turn < size else 3))

    def test_what_stands_at_its_own_turn_says_nothing(self):
        slips = [(0, 1, 2, 20), (1, 9, 9, 9), (2, 8, 8, 8)]
        board, giver = giver_up(3, ORDERS, 0, 1, slips)
        self.assertEqual(given(board, giver), (1, 1, 21, 1))

    def test_a_giver_made_anew_at_each_step_goes_on(self):
        for size in (2, 3, 8):
            orders = [[10], [20, 21], [30]]
            asked = [(0, 0, 10), (1, 1, 20), (1, 0, 21), (2, 0, 30)]
            for many in range(5 + size + 6 * min(size, 4) + 4):
                board = Board(size)
                elder = Giver(board, orders)
                for _ in range(many):
                    elder.step()
                giver = Giver(board, elder.orders() + [[41, 42]])
                self.assertEqual((giver.stage(), giver.turn()), ("rouse", None))
                full = sum(mark % 2 for mark in board.all_cells()[0:4 * size:4])
                step_to(giver, "look")
                self.assertEqual(giver.turn(), full)
                if full < size:
                    self.assertEqual(given(board, giver), (asked + [(3, 1, 41)])[full] + (1,))

    def test_the_first_order_of_all_parts_of_size_eight(self):
        cells = Board(8).all_cells()
        for place in range(5):
            cells[4 * place:4 * place + 4] = [1, 0, 7 - place, 100 + place]
        board = board_of(cells)
        giver = Giver(board, [[100 + part for part in range(8)]])
        step_to(giver, "look")
        self.assertEqual(given(board, giver), (0, 2, 105, 1))
