"""Points 16, 17 and 19: what a taker has, how it takes, and what it puts into its book."""

from slipring import taker as taker_module
from slipring.board import Board
from slipring.taker import Taker
from tests.helper import HUGE, SIZES, RingTest, board_at, step_to


def taker_up(size, book, taker, giver, slips):
    """A board at these turns, and a taker that has come up there."""
    board = board_at(size, taker, giver, slips)
    hand = Taker(board, book)
    step_to(hand, "look")
    return board, hand


def order_at(size, turn, number, order):
    """The slips of an order whose first part lies at the turn."""
    return [
        ((turn + part) % (2 * size), number, len(order) - 1 - part, thing)
        for part, thing in enumerate(order)
    ]


class BookTest(RingTest):
    def test_names_and_arguments(self):
        self.same_arguments(taker_module, {"Taker": ["board", "book"]})
        asked = {"book": [], "first": [], "step": [], "stage": [], "turn": [], "still": []}
        self.same_arguments(Taker, asked)

    def test_the_book_that_was_handed_in(self):
        for size in SIZES:
            self.assertEqual(Taker(Board(size), []).book(), [])
            book = [[1], [-2] * size, [HUGE, 3]]
            self.assertEqual(Taker(Board(size), book).book(), book)

    def test_refused_books(self):
        self.refuses_bad_orders(Taker)

    def test_what_is_handed_in_is_left_and_not_kept(self):
        book = [[1], [2, 3]]
        board, taker = taker_up(2, book, 0, 1, [(0, 2, 0, 4)])
        book[1][0] = 9
        book[0].clear()
        book.append([8])
        self.assertEqual(taker.book(), [[1], [2, 3]])
        step_to(taker, "free")
        self.assertEqual(taker.book(), [[1], [2, 3], [4]])
        self.assertEqual(book, [[], [9, 3], [8]])

    def test_what_is_told_is_the_askers_own(self):
        same = [6]
        board, taker = taker_up(2, [same, same], 0, 1, [(0, 2, 0, 6)])
        early = taker.book()
        step_to(taker, "free")
        told, other = taker.book(), taker.book()
        lists = [told, other] + told + other
        self.assertEqual(len({id(one) for one in lists}), 8)
        told[2].append(1)
        told[0].clear()
        told.clear()
        self.assertEqual(other, [[6], [6], [6]])
        self.assertEqual(taker.book(), [[6], [6], [6]])
        self.assertEqual(early, [[6], [6]])


class TakingTest(RingTest):
    def test_each_step_of_an_order_of_one_part(self):
        board, taker = taker_up(2, [], 0, 1, [(0, 0, 0, -70)])
        self.walks(board, taker, [
            ("look", "read", 0, 1, "number"),
            ("number", "read", 1, 0, "left"),
            ("left", "read", 2, 0, "thing"),
        ])
        self.assertEqual(taker.book(), [])
        self.walks(board, taker, [("thing", "read", 3, -70, "free")])
        self.assertEqual(taker.book(), [[-70]])
        self.assertEqual((taker.turn(), taker.first()), (0, 0))
        self.walks(board, taker, [("free", "write", 0, 0, "card")])
        self.assertEqual((taker.turn(), taker.first()), (0, 0))
        self.walks(board, taker, [("card", "read", 8, -1, "look")])
        self.assertEqual((taker.turn(), taker.first()), (1, 1))
        self.walks(board, taker, [("look", "read", 4, 2, "wish")])

    def test_each_step_of_an_order_of_all_parts_over_the_last_turn(self):
        board, taker = taker_up(3, [], 5, 2, order_at(3, 5, 0, [50, HUGE, -52]))
        self.walks(board, taker, [
            ("look", "read", 8, 3, "number"),
            ("number", "read", 9, 0, "left"),
            ("left", "read", 10, 2, "thing"),
            ("thing", "read", 11, 50, "look"),
        ])
        self.assertEqual((taker.turn(), taker.first(), taker.book()), (0, 5, []))
        self.walks(board, taker, [
            ("look", "read", 0, 1, "number"),
            ("number", "read", 1, 0, "left"),
            ("left", "read", 2, 1, "thing"),
            ("thing", "read", 3, HUGE, "look"),
        ])
        self.assertEqual((taker.turn(), taker.first(), taker.book()), (1, 5, []))
        self.walks(board, taker, [
            ("look", "read", 4, 1, "number"),
            ("number", "read", 5, 0, "left"),
            ("left", "read", 6, 0, "thing"),
            ("thing", "read", 7, -52, "free"),
        ])
        self.assertEqual((taker.turn(), taker.first()), (1, 5))
        self.assertEqual(taker.book(), [[50, HUGE, -52]])
        self.walks(board, taker, [
            ("free", "write", 8, 2, "card"),
            ("card", "read", 12, -1, "free"),
        ])
        self.assertEqual((taker.turn(), taker.first()), (1, 0))
        self.walks(board, taker, [
            ("free", "write", 0, 0, "card"),
            ("card", "read", 12, -1, "free"),
        ])
        self.assertEqual((taker.turn(), taker.first()), (1, 1))
        self.walks(board, taker, [
            ("free", "write", 4, 0, "card"),
            ("card", "read", 12, -1, "look"),
        ])
        self.assertEqual((taker.turn(), taker.first()), (2, 2))

    def test_the_giver_is_rung_where_its_card_has_the_freed_place_in_the_next_round(self):
        for size in SIZES:
            for turn in range(2 * size):
                for card in range(-1, 2 * size):
                    self.check_card(size, turn, card)

    def check_card(self, size, turn, card):
        """Two parts, the first one freed with this card there, the second one without a card."""
        behind = (turn + 1) % (2 * size)
        slips = order_at(size, turn, 0, [1, 2])
        board, taker = taker_up(size, [], turn, (turn + 2) % (2 * size), slips)
        board.write(4 * size, card)
        step_to(taker, "card")
        then = "ring" if card == (turn + size) % (2 * size) else "free"
        self.walks(board, taker, [("card", "read", 4 * size, card, then)])
        if then == "ring":
            self.assertEqual((taker.turn(), taker.first()), (behind, turn))
            self.walks(board, taker, [("ring", "write", 4 * size + 2, 1, "free")])
        self.assertEqual((taker.turn(), taker.first()), (behind, behind))
        free = 0 if behind < size else 2
        self.walks(board, taker, [("free", "write", 4 * (behind % size), free, "card")])
        board.write(4 * size, -1)
        self.walks(board, taker, [("card", "read", 4 * size, -1, "look")])
        onward = (turn + 2) % (2 * size)
        self.assertEqual((taker.turn(), taker.first()), (onward, onward))

    def test_behind_ring_it_looks_where_its_own_turn_was_freed(self):
        for size in SIZES:
            for turn in range(2 * size):
                onward = (turn + 1) % (2 * size)
                board, taker = taker_up(size, [], turn, onward, [(turn, 0, 0, 1)])
                board.write(4 * size, (turn + size) % (2 * size))
                step_to(taker, "ring")
                self.assertEqual((taker.turn(), taker.first()), (turn, turn))
                self.walks(board, taker, [("ring", "write", 4 * size + 2, 1, "look")])
                self.assertEqual((taker.turn(), taker.first()), (onward, onward))

    def test_it_looks_where_it_may_take_and_where_not(self):
        for size in SIZES:
            for turn in range(2 * size):
                for mark in range(4):
                    board, taker = taker_up(size, [], turn, turn, [])
                    board.write(4 * (turn % size), mark)
                    then = "number" if mark == (1 if turn < size else 3) else "wish"
                    self.walks(board, taker, [("look", "read", 4 * (turn % size), mark, then)])

    def test_orders_of_each_length_at_each_turn(self):
        for size in SIZES:
            for turn in range(2 * size):
                for many in range(1, size + 1):
                    order = [1000 + part for part in range(many)]
                    onward = (turn + many) % (2 * size)
                    slips = order_at(size, turn, 1, order)
                    board, taker = taker_up(size, [[5]], turn, onward, slips)
                    step_to(taker, "wish")
                    self.assertEqual(taker.book(), [[5], order])
                    self.assertEqual((taker.turn(), taker.first()), (onward, onward))
                    marks = board.all_cells()[0:4 * size:4]
                    self.assertEqual(sum(mark % 2 for mark in marks), 0)

    def test_orders_one_behind_the_other(self):
        slips = order_at(8, 14, 0, [1]) + order_at(8, 15, 1, [2, 3, 4]) + order_at(8, 2, 2, [5, 6])
        board, taker = taker_up(8, [], 14, 4, slips)
        step_to(taker, "wish")
        self.assertEqual(taker.book(), [[1], [2, 3, 4], [5, 6]])
        self.assertEqual(taker.turn(), 4)


class PuttingTest(RingTest):
    def test_only_the_number_that_is_next_is_put_into_the_book(self):
        for size in SIZES:
            for has in range(5):
                for number in (-HUGE, -1, 0, 1, 2, 3, 4, 5, HUGE):
                    book = [[7]] * has
                    board, taker = taker_up(size, book, 1, 3, order_at(size, 1, number, [8, 9]))
                    step_to(taker, "wish")
                    self.assertEqual(taker.book(), book + [[8, 9]] * (number == has))
                    # It is freed all the same.
                    self.assertEqual((taker.turn(), taker.first()), (3, 3))

    def test_the_number_that_it_read_last_counts(self):
        slips = [(0, 5, 1, 8), (1, 0, 0, 9)]
        self.assertEqual(self.book_of(slips), [[8, 9]])
        slips = [(0, 0, 1, 8), (1, 5, 0, 9)]
        self.assertEqual(self.book_of(slips), [])

    def book_of(self, slips):
        board, taker = taker_up(3, [], 0, 2, slips)
        step_to(taker, "wish")
        return taker.book()

    def test_the_end_of_an_order_that_stands_there_already(self):
        # The elder fell behind its first free: the order's other parts are still full.
        slips = order_at(3, 0, 0, [1, 2, 3])
        board, taker = taker_up(3, [[1, 2, 3]], 1, 3, slips)
        step_to(taker, "wish")
        self.assertEqual(taker.book(), [[1, 2, 3]])
        self.assertEqual((taker.turn(), taker.first()), (3, 3))

    def test_an_order_that_stands_there_is_followed_by_the_next(self):
        slips = order_at(8, 6, 0, [1, 2]) + order_at(8, 8, 1, [3, 4, 5])
        board, taker = taker_up(8, [[1, 2]], 7, 11, slips)
        step_to(taker, "wish")
        self.assertEqual(taker.book(), [[1, 2], [3, 4, 5]])

    def test_a_taker_made_anew_at_each_step_takes_each_order_once(self):
        orders = [[1], [2, 3], [4, 5, 6]]
        for size in range(3, 9):
            for many in range(3 + size + 6 * 6 + 4):
                slips = order_at(size, size - 1, 0, [1]) + order_at(size, size, 1, [2, 3])
                giver = size + 2
                if size >= 6:
                    slips += order_at(size, size + 2, 2, [4, 5, 6])
                    giver = size + 5
                board = board_at(size, size - 1, giver % (2 * size), slips)
                elder = Taker(board, [])
                for _ in range(many):
                    elder.step()
                taker = Taker(board, elder.book())
                self.assertEqual((taker.stage(), taker.turn(), taker.first()), ("rouse", None, None))
                step_to(taker, "wish")
                self.assertEqual(taker.book(), orders[:3 if size >= 6 else 2])
