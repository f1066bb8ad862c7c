"""Points 33 and 34: cells and stands written as texts and read, numbers, and texts that are none."""

import random
import re

from slipring import texts
from slipring.board import Board
from slipring.errors import BadCells, BadStand, NoText
from slipring.hall import Hall
from slipring.lane import Lane
from slipring.stands import stand_of
from slipring.texts import cells_read, cells_text, stand_read, stand_text
from tests.helper import (
    HUGE, NUMBER_FORM, SIZES, Model, RingTest, Watched, all_stages, is_stand, woven,
)

NEW_TWO = "2 -1 0 0\n2 -1 0 0\n-1 -1 0 0"
NEW_STAND = (
    "cells 2 -1 0 0 2 -1 0 0 -1 -1 0 0\ngiver rouse none 0 0\nmarks\ntaker rouse none none 0 0\nmarks\nparts\n"
    "orders -\nbook -"
)
BUSY_STAND = (
    "cells 3 1 1 20 1 0 0 -10 1 1 2 30 -1 -1 0 1\ngiver ring 3 1 1\nmarks\ntaker thing 2 1 0 2\nmarks\nparts 7\n"
    "orders -10; 30 20 40; 5\nbook 9 9 9; 1"
)
BUSY = (
    (3, 1, 1, 20, 1, 0, 0, -10, 1, 1, 2, 30, -1, -1, 0, 1),
    ("ring", 3, (), 1, 1), ("thing", 2, (), 1, 0, 2, (7,)), ((-10,), (30, 20, 40), (5,)), ((9, 9, 9), (1,)),
)
NOT_NUMBERS = [
    "-0", "00", "01", "-01", "+1", "", "-", "--1", "1-", "1.0", "1_0", "0x1", "a", "1a", "none", "1e3", "-00",
    "1" * 61, "-" + "1" * 61, "9" * 100, "0" * 60, ";", "1;", "\t1", "~", "(1)", "-1-", "1,000",
]
SIGNS = ["0", "1", "9", "-", " ", "\n", ";", "a", "~", "."]


def is_cells_text(text):
    """The form of point 33, a second time."""
    row = rf"{NUMBER_FORM}( {NUMBER_FORM}){{3}}"
    return re.fullmatch(rf"{row}(\n{row})*", text) is not None


def cells_second(text):
    """The cells, or the error that is due."""
    if not is_cells_text(text):
        return NoText
    cells = [int(word) for word in text.replace("\n", " ").split(" ")]
    size = len(cells) // 4 - 1
    good = size in SIZES and all(cells[4 * place] in range(4) for place in range(size))
    good = good and all(-1 <= card < 2 * size for card in cells[-4:-2]) and all(bell in (0, 1) for bell in cells[-2:])
    return cells if good else BadCells


def stand_form():
    numbers, turn = rf"(?: {NUMBER_FORM})*", rf"(?:{NUMBER_FORM}|none)"
    order = rf"{NUMBER_FORM}{numbers}"
    orders = rf"((?:-|{order}(?:; {order})*))"
    rows = [
        rf"cells({numbers})", rf"giver ([^ \n]*) ({turn}) ({NUMBER_FORM}) ({NUMBER_FORM})", rf"marks({numbers})",
        rf"taker ([^ \n]*) ({turn}) ({turn}) ({NUMBER_FORM}) ({NUMBER_FORM})", rf"marks({numbers})",
        rf"parts({numbers})", rf"orders {orders}", rf"book {orders}",
    ]
    return re.compile("\n".join(rows))


STAND_FORM = stand_form()


def stand_second(text):
    """The stand, or the error that is due."""
    found = STAND_FORM.fullmatch(text)
    if found is None:
        return NoText
    cells, stage, turn, order, part, marks, his_stage, his_turn, first, number, left, his_marks, parts, orders, book = (
        found.groups()
    )

    def row(words):
        return tuple(int(word) for word in words.split())

    def one(word):
        return None if word == "none" else int(word)

    def rows(words):
        return () if words == "-" else tuple(row(words_there) for words_there in words.split("; "))

    giver = (stage, one(turn), row(marks), int(order), int(part))
    taker = (his_stage, one(his_turn), row(his_marks), one(first), int(number), int(left), row(parts))
    stand = (row(cells), giver, taker, rows(orders), rows(book))
    return stand if is_stand(stand) else BadStand


def spoilt(text, chance, many):
    """The text with one sign left out, told twice, put in, changed, or exchanged with the next one."""
    rows = []
    for at in chance.sample(range(len(text) + 1), min(many, len(text) + 1)):
        for sign in SIGNS:
            rows += [text[:at] + sign + text[at:], text[:at] + sign + text[at + 1:]]
        rows += [text[:at] + text[at + 1:], text[:at] + text[at + 1:at + 2] + text[at:at + 1] + text[at + 2:]]
        rows += [text[:at], text[at:]]
    return rows


def parts_spoilt(text, between):
    """The text with one piece left out, told twice, or exchanged with the next one."""
    pieces = text.split(between)
    rows = []
    for at in range(len(pieces)):
        rows.append(pieces[:at] + pieces[at + 1:])
        rows.append(pieces[:at + 1] + pieces[at:])
        rows.append(pieces[:at] + pieces[at + 1:at + 2] + pieces[at:at + 1] + pieces[at + 2:])
        rows.append(pieces[:at] + [""] + pieces[at:])
    return [between.join(row) for row in rows]


class CellsTextTest(RingTest):
    def told(self, text):
        asked = cells_second(text)
        if isinstance(asked, list):
            self.assertEqual(cells_read(text), asked)
            self.assertEqual(cells_text(asked), text)
        else:
            self.refused(asked, cells_read, text)
        return asked

    def test_names_and_arguments(self):
        asked = {"stand_text": ["stand"], "stand_read": ["text"], "cells_text": ["cells"], "cells_read": ["text"]}
        self.same_arguments(texts, asked)

    def test_new_boards(self):
        self.assertEqual(cells_text(Board(2).all_cells()), NEW_TWO)
        for size in SIZES:
            text = "\n".join(["2 -1 0 0"] * size + ["-1 -1 0 0"])
            self.assertEqual(cells_text(Board(size).all_cells()), text)
            self.assertEqual(cells_read(text), Board(size).all_cells())

    def test_written_place_by_place(self):
        cells = [1, 0, 1, -7, 1, 0, 0, HUGE, 3, 12, -3, -HUGE, 5, 2, 0, 1]
        text = f"1 0 1 -7\n1 0 0 {'9' * 60}\n3 12 -3 -{'9' * 60}\n5 2 0 1"
        self.assertEqual(cells_text(cells), text)
        told = cells_read(text)
        self.assertEqual((told, type(told)), (cells, list))

    def test_boards_of_lanes(self):
        chance = random.Random(330)
        for size in SIZES:
            watched = Watched(self, Lane(size), Model(size))
            for _ in range(20):
                woven(chance, watched, 20, 0.02, 0.1)
                cells = watched.lane.cells()
                text = cells_text(cells)
                self.assertEqual([int(word) for word in text.split()], cells)
                self.assertEqual(text.count("\n"), size)
                self.assertEqual(cells_read(text), cells)

    def test_numbers_of_sixty_figures_and_more(self):
        for figures in (1, 59, 60):
            for minus in ("", "-"):
                text = NEW_TWO.replace("0 0\n2", f"0 {minus}{'7' * figures}\n2", 1)
                self.assertEqual(cells_read(text)[3], int(minus + "7" * figures))
        for figures in (61, 62, 100):
            for minus in ("", "-"):
                text = NEW_TWO.replace("0 0\n2", f"0 {minus}{'7' * figures}\n2", 1)
                self.refused(NoText, cells_read, text)
                # What is told may be longer: it is written, though not read again.
                cells = Board(2).all_cells()
                cells[3] = int(minus + "7" * figures)
                self.assertEqual(cells_text(cells), text)

    def test_long_shelves_are_written(self):
        hall = Hall(8, 2)
        for _ in range(30):
            hall.ask([1] + [HUGE] * 7)
        while not hall.quiet():
            for hand in ("asker", "doer", "teller", "hearer"):
                hall.step(hand)
            if hall.waiting():
                hall.do(0)
        text = cells_text(hall.back_cells())
        self.assertEqual([int(word) for word in text.split()], hall.back_cells())
        self.refused(NoText, cells_read, text)

    def test_words_that_are_no_numbers(self):
        for word in NOT_NUMBERS:
            for at in range(12):
                words = NEW_TWO.replace("\n", " ").split(" ")
                words[at] = word
                rows = [" ".join(words[start:start + 4]) for start in (0, 4, 8)]
                self.refused(NoText, cells_read, "\n".join(rows))

    def test_numbers_that_are_written_so(self):
        for word in ("0", "1", "-1", "10", "-10", "9" * 60, "-" + "9" * 60, "1" + "0" * 59, "101"):
            text = f"2 {word} 0 0\n2 -1 {word} 0\n-1 -1 0 0"
            self.assertEqual(cells_read(text), [2, int(word), 0, 0, 2, -1, int(word), 0, -1, -1, 0, 0])

    def test_blanks_and_line_feeds(self):
        for text in (
            "", " ", "\n", "\n\n\n", NEW_TWO + "\n", "\n" + NEW_TWO, NEW_TWO + " ", " " + NEW_TWO,
            NEW_TWO.replace("\n", "\n\n", 1), NEW_TWO.replace("\n", " ", 1), NEW_TWO.replace("\n", " "),
            NEW_TWO.replace(" ", "  ", 1), NEW_TWO.replace("0\n", "0 \n", 1), NEW_TWO.replace("\n", "\n ", 1),
            NEW_TWO.replace(" ", "\n", 1), NEW_TWO.replace(" ", "\n"), NEW_TWO.replace("\n", ""),
            NEW_TWO.replace(" 0\n", "\n", 1), NEW_TWO.replace("0\n", "0 0\n", 1), NEW_TWO.replace("\n", "; "),
        ):
            self.refused(NoText, cells_read, text)

    def test_cells_that_make_no_board(self):
        for text in (
            "2 -1 0 0", "2 -1 0 0\n-1 -1 0 0", "0 0 0 0", "\n".join(["2 -1 0 0"] * 9 + ["-1 -1 0 0"]),
            NEW_TWO.replace("2 ", "4 ", 1), NEW_TWO.replace("2 ", "-1 ", 1), NEW_TWO.replace("\n-1", "\n-2"),
            NEW_TWO.replace("\n-1", "\n4"), NEW_TWO[:-1] + "2", NEW_TWO[:-3] + "-1 0", NEW_TWO[:-3] + "2 0",
        ):
            self.assertIs(self.told(text), BadCells)
        # The form goes first.
        self.refused(NoText, cells_read, "4 -1 0 0\n2 -1 0 00\n-1 -1 0 0")

    def test_cells_that_are_not_written(self):
        for cells in (
            [], [0] * 4, [0] * 8, [0] * 11, [0] * 13, [2, -1, 0, 0] * 9 + [-1, -1, 0, 0],
            [4] + Board(2).all_cells()[1:], Board(3).all_cells()[:-1] + [2], Board(3).all_cells()[:-4] + [6, -1, 0, 0],
        ):
            self.refused(BadCells, cells_text, cells)

    def test_a_text_spoilt_by_one_sign_at_any_place(self):
        told = {}
        for text in (NEW_TWO, cells_text([1, 0, 1, -7, 1, 0, 0, HUGE, 3, 12, -3, 40, 5, 2, 0, 1])):
            for row in spoilt(text, random.Random(331), 1000) + parts_spoilt(text, "\n") + parts_spoilt(text, " "):
                asked = self.told(row)
                told[asked if isinstance(asked, type) else list] = True
        self.assertEqual(len(told), 3)

    def test_lists_are_left_and_the_askers_own(self):
        cells = Board(2).all_cells()
        cells_text(cells)
        self.assertEqual(cells, Board(2).all_cells())
        one, other = cells_read(NEW_TWO), cells_read(NEW_TWO)
        self.assertIsNot(one, other)
        one.clear()
        self.assertEqual(other, cells)


class StandTextTest(RingTest):
    def told(self, text):
        asked = stand_second(text)
        if isinstance(asked, tuple):
            self.assertEqual(stand_read(text), asked)
            self.assertEqual(stand_text(asked), text)
        else:
            self.refused(asked, stand_read, text)
        return asked

    def test_a_new_lane(self):
        self.assertEqual(stand_text(stand_of(Lane(2))), NEW_STAND)
        self.assertEqual(stand_read(NEW_STAND), stand_of(Lane(2)))

    def test_a_stand_to_which_no_row_of_steps_leads(self):
        self.assertEqual(stand_text(BUSY), BUSY_STAND)
        told = stand_read(BUSY_STAND)
        self.assertEqual(told, BUSY)
        self.assertEqual([type(one) for one in told], [tuple] * 5)
        self.assertEqual([type(one) for one in told[3] + told[4]], [tuple] * 5)

    def test_marks_that_were_read(self):
        lane = Lane(3)
        for _ in range(5):
            lane.step("giver")
        for _ in range(4):
            lane.step("taker")
        self.assertEqual(stand_text(stand_of(lane)).split("\n")[1:6], [
            "giver marks none 0 0", "marks 2 2", "taker marks none none 0 0", "marks 2", "parts",
        ])

    def test_each_stage_of_each_hand(self):
        for stand in all_stages().values():
            text = stand_text(stand)
            self.assertEqual(stand_second(text), stand)
            self.assertEqual(stand_read(text), stand)

    def test_numbers_of_sixty_figures_and_more(self):
        for figures, minus in ((1, "-"), (60, ""), (60, "-")):
            number = int(minus + "8" * figures)
            for place in ("orders -", "book -"):
                text = NEW_STAND.replace(place, f"{place[:-1]}{number} 1; {number}")
                self.assertEqual(self.told(text)[3 if place == "orders -" else 4], ((number, 1), (number,)))
        for figures, minus in ((61, ""), (61, "-"), (70, "")):
            number = int(minus + "8" * figures)
            for place in ("orders -", "book -"):
                self.assertIs(self.told(NEW_STAND.replace(place, f"{place[:-1]}{number}")), NoText)
            lane = Lane(2)
            lane.hand_in([number])
            self.assertEqual(stand_text(stand_of(lane)), NEW_STAND.replace("orders -", f"orders {number}"))
            self.assertIs(self.told(BUSY_STAND.replace("thing 2 1 0 2", f"thing 2 1 {number} 2")), NoText)
            self.assertIs(self.told(BUSY_STAND.replace("parts 7", f"parts {number}")), NoText)
            self.assertIs(self.told(NEW_STAND.replace("none 0 0", f"{number} 0 0", 1)), NoText)

    def test_words_that_are_no_numbers(self):
        rows = BUSY_STAND.split("\n")
        for at, row in enumerate(rows):
            words = row.split(" ")
            for place in range(1, len(words)):
                for word in NOT_NUMBERS:
                    if (at, place) in ((1, 1), (3, 1)) or (word == "none" and (at, place) in ((1, 2), (3, 2), (3, 3))):
                        continue
                    changed = " ".join(words[:place] + [word] + words[place + 1:])
                    if word == "1;" and at > 5:
                        continue
                    text = "\n".join(rows[:at] + [changed] + rows[at + 1:])
                    self.assertIs(self.told(text), NoText, (at, place, word))

    def test_stages_may_be_any_words(self):
        for word in ("", "x", "Ring", "none", "1", "-", "ring;", "giver", "told", "~", "-0", "00"):
            self.assertIs(self.told(BUSY_STAND.replace("taker thing", "taker " + word)), BadStand)
        for word in ("", "x", "Ring", "none", "1", "-", "ring;", "giver", "free", "~", "-0", "00"):
            self.assertIs(self.told(BUSY_STAND.replace("giver ring", "giver " + word)), BadStand)
        self.assertIs(self.told(BUSY_STAND.replace("giver ring ", "giver ")), NoText)
        self.assertIs(self.told(BUSY_STAND.replace("giver ring ", "giver a b ")), NoText)
        self.assertIs(self.told(BUSY_STAND.replace("giver ring ", "giver a\nb ")), NoText)

    def test_orders(self):
        for words, asked in (
            ("1", ((1,),)), ("1; 2", ((1,), (2,))), ("1 2; -3", ((1, 2), (-3,))), ("-", ()), ("0; 0; 0", ((0,),) * 3),
            ("1 2 3", BadStand), ("1; 2 3 4; 5", BadStand),
            ("", NoText), (" ", NoText), ("1;", NoText), ("1; ", NoText), (";", NoText), ("; ", NoText),
            ("; 1", NoText),
            ("1;2", NoText), ("1 ; 2", NoText), ("1;  2", NoText), ("1; ; 2", NoText), ("-; 1", NoText),
            ("1; -", NoText), ("- 1", NoText), ("--", NoText), ("- ", NoText), (" -", NoText), ("none", NoText),
            ("1, 2", NoText), ("1  2", NoText), ("1 ", NoText), (" 1", NoText),
        ):
            for place, at in (("orders", 3), ("book", 4)):
                told = self.told(NEW_STAND.replace(f"{place} -", f"{place} {words}"))
                self.assertEqual(told[at] if isinstance(told, tuple) else told, asked, words)
        for place in ("orders", "book"):
            self.assertIs(self.told(NEW_STAND.replace(f"{place} -", place)), NoText)

    def test_rows_and_words_left_out_told_twice_or_exchanged(self):
        told = {}
        for text in (NEW_STAND, BUSY_STAND):
            for row in parts_spoilt(text, "\n") + parts_spoilt(text, " ") + parts_spoilt(text, "; "):
                asked = self.told(row)
                told[asked if isinstance(asked, type) else tuple] = True
        self.assertEqual(len(told), 3)

    def test_a_text_spoilt_by_one_sign_at_any_place(self):
        told = {}
        for text in (NEW_STAND, BUSY_STAND):
            for row in spoilt(text, random.Random(340), 1000):
                asked = self.told(row)
                told[asked if isinstance(asked, type) else tuple] = True
        self.assertEqual(len(told), 3)

    def test_stands_of_lanes_spoilt_by_one_sign(self):
        chance = random.Random(341)
        for stand in list(all_stages().values())[::15]:
            text = stand_text(stand)
            for row in spoilt(text, chance, 8):
                self.told(row)

    def test_empty_and_endless(self):
        for text in ("", " ", "\n", "\n" * 7, "\n" * 8, NEW_STAND + "\n", "\n" + NEW_STAND, NEW_STAND + " ", NEW_TWO):
            self.assertIs(self.told(text), NoText)

    def test_rows_without_numbers_are_their_first_word_alone(self):
        self.assertIs(self.told(NEW_STAND.replace("parts", "parts ")), NoText)
        self.assertIs(self.told(NEW_STAND.replace("marks", "marks ", 1)), NoText)
        self.assertIs(self.told(NEW_STAND.replace("marks", "marks -", 1)), NoText)
        self.assertIs(self.told(NEW_STAND.replace("cells 2 -1 0 0 2 -1 0 0 -1 -1 0 0", "cells")), BadStand)

    def test_the_form_goes_ahead_of_the_stand(self):
        self.assertIs(self.told(NEW_STAND.replace("cells 2", "cells 9")), BadStand)
        self.assertIs(self.told(NEW_STAND.replace("cells 2", "cells 9").replace("book -", "book")), NoText)
        self.assertIs(self.told(NEW_STAND.replace("giver rouse", "giver rose").replace("book -", "book 00")), NoText)

    def test_stands_that_are_not_written(self):
        new = stand_of(Lane(2))
        for stand in (
            new[:0] + ((2,) * 11,) + new[1:], new[:1] + (("rouse", 0, (), 0, 0),) + new[2:],
            new[:1] + (("a b", None, (), 0, 0),) + new[2:], new[:1] + (("", None, (), 0, 0),) + new[2:],
            new[:2] + (("rouse", None, (), 1, 0, 0, ()),) + new[3:], new[:3] + (((),), ()),
            new[:3] + ((), ((1, 2, 3),)),
        ):
            self.assertFalse(is_stand(stand))
            self.refused(BadStand, stand_text, stand)
