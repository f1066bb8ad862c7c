"""Points 10, 11, 12 and 18: how both hands come up, know their turns, wait, and are still."""

from slipring.board import Board, board_of
from slipring.giver import Giver
from slipring.taker import Taker
from tests.helper import SIZES, RingTest, board_at, step_to

COMING_UP = ["rouse", "clear", "mute", "marks"]


def rung_board(size):
    """A board with both bells rung and both cards written, as fallen hands may leave it."""
    cells = Board(size).all_cells()
    cells[4 * size:] = [1, 0, 1, 1]
    return board_of(cells)


def both_hands(board):
    return [Giver(board, [[5]]), Taker(board, [])]


class ComingUpTest(RingTest):
    def test_a_hand_that_is_made_is_at_rouse_and_touches_nothing(self):
        for size in SIZES:
            board = Board(size)
            for hand in both_hands(board):
                self.assertEqual(hand.stage(), "rouse")
                self.assertIsNone(hand.turn())
                self.assertIs(hand.still(), False)
            self.assertIsNone(Taker(board, []).first())
            self.assertEqual((board.touches(), board.all_cells()), (0, Board(size).all_cells()))

    def test_the_giver_comes_up(self):
        board = rung_board(2)
        self.walks(board, Giver(board, []), [
            ("rouse", "write", 11, 1, "clear"),
            ("clear", "write", 8, -1, "mute"),
            ("mute", "write", 10, 0, "marks"),
            ("marks", "read", 0, 2, "marks"),
            ("marks", "read", 4, 2, "told"),
            ("told", "read", 5, -1, "lacks"),
            ("lacks", "read", 6, 0, "look"),
        ])
        self.assertEqual(board.all_cells()[8:], [-1, 0, 0, 1])

    def test_the_taker_comes_up(self):
        board = rung_board(2)
        self.walks(board, Taker(board, []), [
            ("rouse", "write", 10, 1, "clear"),
            ("clear", "write", 9, -1, "mute"),
            ("mute", "write", 11, 0, "marks"),
            ("marks", "read", 0, 2, "marks"),
            ("marks", "read", 4, 2, "look"),
        ])
        self.assertEqual(board.all_cells()[8:], [1, -1, 1, 0])

    def test_both_come_up_on_each_size(self):
        for size in SIZES:
            for own, behind in ((0, "told"), (1, "look")):
                board = rung_board(size)
                hand = both_hands(board)[own]
                rows = [
                    ("rouse", "write", 4 * size + 2 + 1 - own, 1, "clear"),
                    ("clear", "write", 4 * size + own, -1, "mute"),
                    ("mute", "write", 4 * size + 2 + own, 0, "marks"),
                ]
                rows += [("marks", "read", 4 * place, 2, "marks") for place in range(size - 1)]
                rows += [("marks", "read", 4 * size - 4, 2, behind)]
                self.walks(board, hand, rows)

    def test_coming_up_on_a_new_board_writes_all_the_same(self):
        board = Board(2)
        self.walks(board, Taker(board, []), [
            ("rouse", "write", 10, 1, "clear"),
            ("clear", "write", 9, -1, "mute"),
            ("mute", "write", 11, 0, "marks"),
        ])

    def test_one_touch_a_step(self):
        for size in SIZES:
            board = board_at(size, 0, 1, [(0, 0, 0, 5)])
            taker = Taker(board, [])
            for many in range(1, 60):
                self.assertIs(taker.step(), True)
                self.assertEqual(board.touches(), many)
            giver = Giver(board, [[5], [6]])
            for many in range(60, 60 + size + 5 + 6):
                self.assertIs(giver.step(), True)
                self.assertEqual(board.touches(), many)


class KnownTurnTest(RingTest):
    def test_turns_are_none_until_the_last_mark_is_read(self):
        for size in SIZES:
            for hand in both_hands(Board(size)):
                for _ in range(3 + size):
                    self.assertIn(hand.stage(), COMING_UP)
                    self.assertIsNone(hand.turn())
                    hand.step()
                self.assertNotIn(hand.stage(), COMING_UP)
                self.same_number(hand.turn(), 0)
            taker = Taker(Board(size), [])
            for _ in range(3 + size):
                self.assertIsNone(taker.first())
                taker.step()
            self.same_number(taker.first(), 0)

    def test_turns_of_each_sound_row_of_marks(self):
        for size in SIZES:
            for turn in range(2 * size):
                for ahead in range(size + 1):
                    other = (turn + ahead) % (2 * size)
                    board = board_at(size, turn, other)
                    giver, taker = Giver(board, []), Taker(board, [])
                    step_to(giver, "told")
                    step_to(taker, "look")
                    self.same_number(giver.turn(), other)
                    self.same_number(taker.turn(), turn)
                    self.same_number(taker.first(), turn)

    def test_the_giver_knows_its_turn_whatever_is_freed_meanwhile(self):
        for size in SIZES:
            for turn in range(2 * size):
                giver_turn = (turn + size) % (2 * size)
                for late in range(size + 1):
                    board = board_at(size, turn, giver_turn)
                    giver = Giver(board, [])
                    step_to(giver, "marks")
                    for place in range(size):
                        giver.step()
                        if place >= late:
                            # The taker frees one place behind the other, some ahead of the look.
                            freed = (turn + place - late) % (2 * size)
                            board.write(4 * (freed % size), 2 * (freed // size))
                    self.assertEqual((giver.stage(), giver.turn()), ("told", giver_turn))

    def test_the_taker_knows_its_turn_whatever_is_given_meanwhile(self):
        for size in SIZES:
            for turn in range(2 * size):
                for late in range(size + 1):
                    board = board_at(size, turn, turn)
                    taker = Taker(board, [])
                    step_to(taker, "marks")
                    for place in range(size):
                        taker.step()
                        if place >= late:
                            given = (turn + place - late) % (2 * size)
                            board.write(4 * (given % size), 2 * (given // size) + 1)
                    self.assertEqual((taker.stage(), taker.turn()), ("look", turn))
                    self.assertEqual(taker.first(), turn)


class WaitingGiverTest(RingTest):
    def full_board(self, size, turn):
        """The giver's turn is this one, and the ring is full."""
        board = board_at(size, (turn + size) % (2 * size), turn, [(turn + size - 1, 0, 0, 0)])
        giver = Giver(board, [[0], [9]])
        step_to(giver, "look")
        return board, giver

    def test_it_sleeps_and_is_rung(self):
        board, giver = self.full_board(2, 2)
        self.walks(board, giver, [
            ("look", "read", 0, 1, "wish"),
            ("wish", "write", 8, 2, "again"),
            ("again", "read", 0, 1, "sleep"),
            ("sleep", "read", 10, 0, "sleep"),
            ("sleep", "read", 10, 0, "sleep"),
        ])
        board.write(0, 0)
        self.walks(board, giver, [("sleep", "read", 10, 0, "sleep")])
        board.write(10, 1)
        self.walks(board, giver, [
            ("sleep", "read", 10, 1, "hush"),
            ("hush", "write", 10, 0, "unwish"),
            ("unwish", "write", 8, -1, "look"),
            ("look", "read", 0, 0, "number"),
        ])

    def test_it_may_give_when_it_looks_again(self):
        board, giver = self.full_board(3, 1)
        self.walks(board, giver, [
            ("look", "read", 4, 3, "wish"),
            ("wish", "write", 12, 1, "again"),
        ])
        board.write(4, 2)
        self.walks(board, giver, [
            ("again", "read", 4, 2, "unwish"),
            ("unwish", "write", 12, -1, "look"),
            ("look", "read", 4, 2, "number"),
        ])

    def test_rung_for_nothing_it_waits_anew(self):
        board, giver = self.full_board(2, 3)
        board.write(10, 1)
        self.walks(board, giver, [
            ("look", "read", 4, 1, "wish"),
            ("wish", "write", 8, 3, "again"),
            ("again", "read", 4, 1, "sleep"),
            ("sleep", "read", 10, 1, "hush"),
            ("hush", "write", 10, 0, "unwish"),
            ("unwish", "write", 8, -1, "look"),
            ("look", "read", 4, 1, "wish"),
            ("wish", "write", 8, 3, "again"),
            ("again", "read", 4, 1, "sleep"),
            ("sleep", "read", 10, 0, "sleep"),
        ])
        self.assertEqual(giver.turn(), 3)

    def test_it_waits_at_each_turn(self):
        for size in SIZES:
            for turn in range(2 * size):
                board, giver = self.full_board(size, turn)
                cell, full = 4 * (turn % size), 3 if turn < size else 1
                self.walks(board, giver, [
                    ("look", "read", cell, full, "wish"),
                    ("wish", "write", 4 * size, turn, "again"),
                    ("again", "read", cell, full, "sleep"),
                    ("sleep", "read", 4 * size + 2, 0, "sleep"),
                ])
                self.assertEqual(giver.turn(), turn)


class WaitingTakerTest(RingTest):
    def empty_board(self, size, turn):
        """Both turns are this one: nothing is there to be taken."""
        board = board_at(size, turn, turn)
        taker = Taker(board, [])
        step_to(taker, "look")
        return board, taker

    def test_it_sleeps_and_is_rung(self):
        board, taker = self.empty_board(2, 0)
        self.walks(board, taker, [
            ("look", "read", 0, 2, "wish"),
            ("wish", "write", 9, 0, "again"),
            ("again", "read", 0, 2, "sleep"),
            ("sleep", "read", 11, 0, "sleep"),
            ("sleep", "read", 11, 0, "sleep"),
        ])
        board.write(0, 1)
        self.walks(board, taker, [("sleep", "read", 11, 0, "sleep")])
        board.write(11, 1)
        self.walks(board, taker, [
            ("sleep", "read", 11, 1, "hush"),
            ("hush", "write", 11, 0, "unwish"),
            ("unwish", "write", 9, -1, "look"),
            ("look", "read", 0, 1, "number"),
        ])

    def test_it_may_take_when_it_looks_again(self):
        board, taker = self.empty_board(3, 5)
        self.walks(board, taker, [
            ("look", "read", 8, 0, "wish"),
            ("wish", "write", 13, 5, "again"),
        ])
        board.write(8, 3)
        self.walks(board, taker, [
            ("again", "read", 8, 3, "unwish"),
            ("unwish", "write", 13, -1, "look"),
            ("look", "read", 8, 3, "number"),
        ])

    def test_it_waits_at_each_turn(self):
        for size in SIZES:
            for turn in range(2 * size):
                board, taker = self.empty_board(size, turn)
                cell, free = 4 * (turn % size), 2 if turn < size else 0
                self.walks(board, taker, [
                    ("look", "read", cell, free, "wish"),
                    ("wish", "write", 4 * size + 1, turn, "again"),
                    ("again", "read", cell, free, "sleep"),
                    ("sleep", "read", 4 * size + 3, 0, "sleep"),
                ])
                self.assertEqual((taker.turn(), taker.first()), (turn, turn))

    def test_it_waits_within_an_order_at_the_turn_at_which_it_looks(self):
        board = board_at(3, 2, 3, [(2, 0, 1, 50)])
        taker = Taker(board, [])
        step_to(taker, "look")
        step_to(taker, "look", least=1)
        self.assertEqual((taker.turn(), taker.first()), (3, 2))
        self.walks(board, taker, [
            ("look", "read", 0, 0, "wish"),
            ("wish", "write", 13, 3, "again"),
            ("again", "read", 0, 0, "sleep"),
            ("sleep", "read", 15, 0, "sleep"),
        ])
        for cell, number in ((1, 0), (2, 0), (3, 51), (0, 3), (15, 1)):
            board.write(cell, number)
        self.walks(board, taker, [
            ("sleep", "read", 15, 1, "hush"),
            ("hush", "write", 15, 0, "unwish"),
            ("unwish", "write", 13, -1, "look"),
            ("look", "read", 0, 3, "number"),
            ("number", "read", 1, 0, "left"),
            ("left", "read", 2, 0, "thing"),
            ("thing", "read", 3, 51, "free"),
        ])
        self.assertEqual(taker.book(), [[50, 51]])


class StillTest(RingTest):
    def stills(self, hand, many):
        """The stages of so many steps at which the hand tells that it is still."""
        told = []
        for _ in range(many):
            self.assertIs(type(hand.still()), bool)
            if hand.still():
                told.append(hand.stage())
            hand.step()
        return sorted(set(told))

    def test_a_hand_that_sleeps_with_its_bell_still(self):
        for own, bell in ((0, 10), (1, 11)):
            board = board_at(2, 0, 2 if own == 0 else 0, [(1, 0, 0, 5)])
            hand = [Giver(board, [[5], [6]]), Taker(board, [])][own]
            self.assertEqual(self.stills(hand, 30), ["sleep"])
            touches = board.touches()
            self.assertIs(hand.still(), True)
            self.assertEqual(board.touches(), touches)
            board.write(bell, 1)
            self.assertIs(hand.still(), False)
            board.write(bell, 0)
            self.assertIs(hand.still(), True)
            # The other's bell is not its own.
            board.write(21 - bell, 1)
            self.assertIs(hand.still(), True)

    def test_a_sleeper_is_still_though_it_might_go_on(self):
        board = Board(2)
        taker = Taker(board, [])
        step_to(taker, "sleep")
        board.write(0, 1)
        self.assertIs(taker.still(), True)

    def test_a_giver_at_rest(self):
        for size in SIZES:
            board = Board(size)
            giver = Giver(board, [])
            self.assertEqual(self.stills(giver, 3 + size + 2), [])
            self.assertEqual((giver.stage(), giver.still()), ("look", True))
            giver.add([1])
            self.assertEqual((giver.stage(), giver.still()), ("look", False))
            self.assertEqual(self.stills(giver, 6), [])
            self.assertEqual((giver.stage(), giver.still()), ("look", True))

    def test_a_giver_at_rest_is_still_though_its_bell_is_rung(self):
        board = Board(2)
        giver = Giver(board, [])
        step_to(giver, "look")
        board.write(10, 1)
        self.assertIs(giver.still(), True)
        self.assertIs(giver.step(), False)

    def test_a_taker_is_never_at_rest(self):
        board = Board(2)
        taker = Taker(board, [])
        self.assertEqual(self.stills(taker, 8), [])
        self.assertEqual(taker.stage(), "sleep")
        step_to(taker, "sleep")
        board.write(11, 1)
        self.assertEqual(self.stills(taker, 6), [])

    def test_steps_of_a_still_hand_change_nothing(self):
        for own in (0, 1):
            board = Board(3)
            hand = [Giver(board, []), Taker(board, [])][own]
            for _ in range(20):
                hand.step()
            told = (hand.stage(), hand.turn(), board.all_cells())
            for _ in range(5):
                self.assertIs(hand.still(), True)
                hand.step()
                self.assertEqual((hand.stage(), hand.turn(), board.all_cells()), told)
