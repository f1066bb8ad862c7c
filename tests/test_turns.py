"""Point 4: size, turn, place, lap, onward, distance."""

from slipring import turns
from slipring.errors import BadSize, NoTurn
from slipring.turns import distance, lap_of, onward, place_of
from tests.helper import BAD_SIZES, HUGE, SIZES, RingTest, bad_turns


class TurnsTest(RingTest):
    def test_names_and_arguments(self):
        asked = {
            "place_of": ["size", "turn"],
            "lap_of": ["size", "turn"],
            "onward": ["size", "turn", "many"],
            "distance": ["size", "one", "other"],
        }
        self.same_arguments(turns, asked)

    def test_written_places_and_laps(self):
        self.assertEqual([place_of(2, turn) for turn in range(4)], [0, 1, 0, 1])
        self.assertEqual([lap_of(2, turn) for turn in range(4)], [0, 0, 1, 1])
        self.assertEqual([place_of(3, turn) for turn in range(6)], [0, 1, 2, 0, 1, 2])
        self.assertEqual([lap_of(3, turn) for turn in range(6)], [0, 0, 0, 1, 1, 1])
        self.assertEqual((place_of(8, 0), lap_of(8, 0)), (0, 0))
        self.assertEqual((place_of(8, 7), lap_of(8, 7)), (7, 0))
        self.assertEqual((place_of(8, 8), lap_of(8, 8)), (0, 1))
        self.assertEqual((place_of(8, 15), lap_of(8, 15)), (7, 1))

    def test_places_and_laps_go_round_twice(self):
        for size in SIZES:
            turn = 0
            for lap in (0, 1):
                for place in range(size):
                    self.same_number(place_of(size, turn), place)
                    self.same_number(lap_of(size, turn), lap)
                    turn += 1

    def test_onward_walks_one_by_one(self):
        for size in SIZES:
            row = list(range(2 * size))
            for turn in row:
                walked = row[turn:] + row[:turn]
                for many in range(4 * size + 1):
                    self.same_number(onward(size, turn, many), walked[many % len(row)])

    def test_onward_below_nought_walks_back(self):
        for size in SIZES:
            for turn in range(2 * size):
                back = turn
                for many in range(4 * size + 1):
                    self.same_number(onward(size, turn, -many), back)
                    back = 2 * size - 1 if back == 0 else back - 1

    def test_onward_over_the_last_turn(self):
        self.assertEqual(onward(2, 3, 1), 0)
        self.assertEqual(onward(2, 0, -1), 3)
        self.assertEqual(onward(8, 15, 1), 0)
        self.assertEqual(onward(8, 0, -1), 15)
        self.assertEqual(onward(8, 15, 16), 15)
        self.assertEqual(onward(5, 7, 4), 1)
        self.assertEqual(onward(5, 1, -4), 7)

    def test_onward_by_sixty_figures(self):
        self.assertEqual(len(str(HUGE)), 60)
        self.same_number(onward(5, 0, HUGE), 9)
        self.same_number(onward(5, 0, -HUGE), 1)
        self.same_number(onward(5, 3, 10 ** 59), 3)
        self.same_number(onward(8, 2, 10 ** 59 + 1), 3)
        self.same_number(onward(8, 2, -(10 ** 59) - 3), 15)
        self.same_number(onward(3, 0, 10 ** 59), 4)

    def test_distance_is_how_far_onward(self):
        for size in SIZES:
            for one in range(2 * size):
                at = one
                for far in range(2 * size):
                    self.same_number(distance(size, one, at), far)
                    at = 0 if at == 2 * size - 1 else at + 1
                self.assertEqual(at, one)

    def test_written_distances(self):
        self.assertEqual(distance(2, 0, 3), 3)
        self.assertEqual(distance(2, 3, 0), 1)
        self.assertEqual(distance(8, 15, 0), 1)
        self.assertEqual(distance(8, 0, 15), 15)
        self.assertEqual(distance(8, 4, 12), 8)
        self.assertEqual(distance(8, 12, 4), 8)
        self.assertEqual(distance(5, 7, 2), 5)
        self.assertEqual(distance(5, 7, 7), 0)


class RefusedTurnsTest(RingTest):
    def test_bad_sizes_go_first(self):
        for size in BAD_SIZES:
            for turn in (0, 1, -1, 16, 18, HUGE):
                self.refused(BadSize, place_of, size, turn)
                self.refused(BadSize, lap_of, size, turn)
                self.refused(BadSize, onward, size, turn, 1)
                self.refused(BadSize, distance, size, turn, 0)
                self.refused(BadSize, distance, size, 0, turn)
                self.refused(BadSize, distance, size, turn, turn)

    def test_bad_turns(self):
        for size in SIZES:
            for turn in bad_turns(size):
                self.refused(NoTurn, place_of, size, turn)
                self.refused(NoTurn, lap_of, size, turn)
                for many in (0, 1, -1, -turn, HUGE):
                    self.refused(NoTurn, onward, size, turn, many)
                self.refused(NoTurn, distance, size, turn, 0)
                self.refused(NoTurn, distance, size, 0, turn)
                self.refused(NoTurn, distance, size, turn, turn)
