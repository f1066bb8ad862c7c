"""Point 5: full and free marks, and where it may be given and taken."""

from slipring import marks
from slipring.errors import BadMark, BadSize, NoTurn
from slipring.marks import free_mark, full_mark, may_give, may_take
from tests.helper import BAD_MARKS, BAD_SIZES, HUGE, SIZES, RingTest, bad_turns


class MarksTest(RingTest):
    def test_names_and_arguments(self):
        asked = {
            "full_mark": ["size", "turn"],
            "free_mark": ["size", "turn"],
            "may_give": ["size", "turn", "mark"],
            "may_take": ["size", "turn", "mark"],
        }
        self.same_arguments(marks, asked)

    def test_full_and_free_marks_of_each_turn(self):
        for size in SIZES:
            for place in range(size):
                self.same_number(full_mark(size, place), 1)
                self.same_number(free_mark(size, place), 0)
                self.same_number(full_mark(size, size + place), 3)
                self.same_number(free_mark(size, size + place), 2)

    def test_written_edges(self):
        self.assertEqual([full_mark(2, turn) for turn in range(4)], [1, 1, 3, 3])
        self.assertEqual([free_mark(2, turn) for turn in range(4)], [0, 0, 2, 2])
        self.assertEqual([full_mark(8, turn) for turn in (0, 7, 8, 15)], [1, 1, 3, 3])
        self.assertEqual([free_mark(8, turn) for turn in (0, 7, 8, 15)], [0, 0, 2, 2])

    def test_may_give_at_the_free_mark_of_the_other_lap_alone(self):
        for size in SIZES:
            for turn in range(2 * size):
                told = [may_give(size, turn, mark) for mark in range(4)]
                asked = [False, False, True, False] if turn < size else [True, False, False, False]
                self.assertEqual(told, asked, (size, turn))
                self.assertTrue(all(type(truth) is bool for truth in told))

    def test_may_take_at_the_own_full_mark_alone(self):
        for size in SIZES:
            for turn in range(2 * size):
                told = [may_take(size, turn, mark) for mark in range(4)]
                asked = [False, True, False, False] if turn < size else [False, False, False, True]
                self.assertEqual(told, asked, (size, turn))
                self.assertTrue(all(type(truth) is bool for truth in told))

    def test_a_places_marks_follow_one_another(self):
        for size in SIZES:
            for place in range(size):
                mark = 2
                seen = [mark]
                for turn in (place, place + size):
                    self.assertTrue(may_give(size, turn, mark))
                    mark = full_mark(size, turn)
                    seen.append(mark)
                    self.assertTrue(may_take(size, turn, mark))
                    mark = free_mark(size, turn)
                    seen.append(mark)
                self.assertEqual(seen, [2, 1, 0, 3, 2])

    def test_at_each_mark_just_one_thing_may_be_done(self):
        for size in SIZES:
            for place in range(size):
                for mark in range(4):
                    things = []
                    for turn in (place, place + size):
                        things += [may_give(size, turn, mark), may_take(size, turn, mark)]
                    self.assertEqual(things.count(True), 1, (size, place, mark))


class RefusedMarksTest(RingTest):
    def test_bad_sizes_go_first(self):
        for size in BAD_SIZES:
            for turn in (0, -1, 18, HUGE):
                self.refused(BadSize, full_mark, size, turn)
                self.refused(BadSize, free_mark, size, turn)
                for mark in (0, 3, -1, 4):
                    self.refused(BadSize, may_give, size, turn, mark)
                    self.refused(BadSize, may_take, size, turn, mark)

    def test_bad_turns_go_ahead_of_bad_marks(self):
        for size in SIZES:
            for turn in bad_turns(size):
                self.refused(NoTurn, full_mark, size, turn)
                self.refused(NoTurn, free_mark, size, turn)
                for mark in [0, 1, 2, 3] + BAD_MARKS:
                    self.refused(NoTurn, may_give, size, turn, mark)
                    self.refused(NoTurn, may_take, size, turn, mark)

    def test_bad_marks(self):
        for size in SIZES:
            for turn in range(2 * size):
                for mark in BAD_MARKS:
                    self.refused(BadMark, may_give, size, turn, mark)
                    self.refused(BadMark, may_take, size, turn, mark)
