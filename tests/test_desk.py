"""Point 35: the rows that a desk is told, its answers, the names by which stands are kept, and the refusals."""

import random
import re

from slipring import desk as desk_module
from slipring.desk import Desk
from slipring.errors import BadOrder, BadSize, NoHand, NoName, NoRow
from slipring.lane import Lane
from slipring.stands import stand_of
from slipring.texts import stand_read, stand_text
from tests.helper import (
    BAD_HANDS, BAD_SIZES, HANDS, HUGE, NUMBER_FORM, SIZES, Model, RingTest, model_at,
)

ASKED = [
    "stage giver", "stage taker", "turn giver", "turn taker", "book", "orders", "cells", "touches", "quiet", "stand",
    "kept",
]


def all_told(desk):
    return [desk.say(row) for row in ASKED]


def orders_words(orders):
    return "; ".join(" ".join(str(part) for part in order) for order in orders) if orders else "-"


def is_many(word):
    return re.fullmatch(NUMBER_FORM, word) is not None and 0 <= int(word) <= 1000


def is_row(words):
    """Whether these words are a row, a second time."""
    if words[0] == "order":
        return all(re.fullmatch(NUMBER_FORM, word) for word in words[1:])
    if words[0] == "step":
        return len(words) == 2 or (len(words) == 3 and is_many(words[2]))
    if words[0] in ("fall", "stage", "turn", "keep", "go", "forget"):
        return len(words) == 2
    return len(words) == 1 and words[0] in ("book", "orders", "cells", "touches", "quiet", "stand", "kept")


class DeskModel:
    """The desk told a second time, over a model of its lane."""

    def __init__(self, size):
        self.model, self.kept = Model(size), {}

    def answer(self, row):
        """The text, or the error that is due."""
        words = row.split(" ")
        if not is_row(words):
            return NoRow
        deed, rest = words[0], words[1:]
        if deed in ("keep", "go", "forget"):
            return self.named(deed, rest[0])
        if deed in ("step", "fall", "stage", "turn"):
            return self.handed(deed, rest)
        model = self.model
        if deed == "order":
            if not 1 <= len(rest) <= model.size:
                return BadOrder
            model.orders.append([int(word) for word in rest])
            return str(len(model.orders) - 1)
        if deed == "kept":
            return " ".join(sorted(self.kept)) or "none"
        return {
            "book": orders_words(model.book), "orders": orders_words(model.orders),
            "cells": " ".join(map(str, model.cells)), "touches": str(len(model.trail)),
            "quiet": "yes" if model.quiet() else "no", "stand": self.stand_words(),
        }[deed]

    def named(self, deed, name):
        if re.fullmatch("[a-z]{1,8}", name) is None:
            return NoName
        if deed == "keep":
            if name not in self.kept and len(self.kept) == 40:
                return NoName
            self.kept[name] = self.model.stand()
        elif name not in self.kept:
            return NoName
        elif deed == "go":
            self.model = model_at(self.kept[name])
        else:
            del self.kept[name]
        return "ok"

    def handed(self, deed, rest):
        if rest[0] not in HANDS:
            return NoHand
        own = HANDS.index(rest[0])
        if deed == "fall":
            self.model.fall(own)
        if deed == "step":
            for _ in range(int((rest + ["1"])[1])):
                self.model.step(own)
        mind = self.model.minds[own]
        if deed == "turn":
            return "none" if mind.turn is None else str(mind.turn)
        return mind.stage

    def stand_words(self):
        cells, giver, taker, orders, book = self.model.stand()
        turns = ["none" if turn is None else str(turn) for turn in (giver[1], taker[1], taker[3])]
        rows = [
            ["cells", *cells], ["giver", giver[0], turns[0], *giver[3:]], ["marks", *giver[2]],
            ["taker", taker[0], turns[1], turns[2], *taker[4:6]], ["marks", *taker[2]], ["parts", *taker[6]],
            ["orders", orders_words(orders)], ["book", orders_words(book)],
        ]
        return "\n".join(" ".join(map(str, row)) for row in rows)


class RowsTest(RingTest):
    def test_names_and_arguments(self):
        self.same_arguments(desk_module, {"Desk": ["size"]})
        self.same_arguments(Desk, {"say": ["row"]})

    def test_a_new_desk(self):
        for size in SIZES:
            desk = Desk(size)
            cells = " ".join(["2 -1 0 0"] * size + ["-1 -1 0 0"])
            self.assertEqual(all_told(desk), [
                "rouse", "rouse", "none", "none", "-", "-", cells, "0", "no", stand_text(stand_of(Lane(size))), "none",
            ])

    def test_sizes_that_are_none(self):
        for size in BAD_SIZES:
            self.refused(BadSize, Desk, size)

    def test_a_day_at_the_desk(self):
        desk = Desk(2)
        for row, asked in (
            ("order 7 -8", "0"), ("orders", "7 -8"), ("book", "-"), ("order 9", "1"), ("orders", "7 -8; 9"),
            ("stage giver", "rouse"), ("step giver", "clear"), ("touches", "1"), ("step giver 0", "clear"),
            ("touches", "1"), ("step giver 3", "marks"), ("turn giver", "none"), ("step giver 1", "told"),
            ("turn giver", "0"), ("step giver 8", "look"), ("turn giver", "1"), ("step giver 1000", "sleep"),
            ("turn giver", "2"), ("touches", "1013"), ("cells", "1 0 1 7 1 0 0 -8 2 -1 0 1"), ("quiet", "no"),
            ("step taker 13", "free"), ("book", "7 -8"), ("turn taker", "1"), ("stage taker", "free"), ("keep a", "ok"),
            ("fall taker", "rouse"), ("turn taker", "none"), ("stage taker", "rouse"), ("book", "7 -8"),
            ("touches", "1026"), ("go a", "ok"), ("touches", "0"), ("stage taker", "free"), ("kept", "a"),
            ("step taker 3", "free"), ("touches", "3"), ("step taker 1000", "sleep"), ("step giver 1000", "look"),
            ("step taker 1000", "sleep"), ("book", "7 -8; 9"), ("quiet", "yes"), ("forget a", "ok"), ("kept", "none"),
        ):
            told = desk.say(row)
            self.assertEqual((row, told, type(told)), (row, asked, str))

    def test_orders_and_their_numbers(self):
        for size in SIZES:
            desk = Desk(size)
            for number in range(20):
                parts = 1 + number % size
                self.assertEqual(desk.say("order" + " -5" * parts), str(number))
            self.assertEqual(desk.say("orders").count(";"), 19)
            told = all_told(desk)
            self.refused(BadOrder, desk.say, "order")
            self.refused(BadOrder, desk.say, "order" + " 1" * (size + 1))
            self.refused(BadOrder, desk.say, "order" + " 1" * 50)
            self.assertEqual(all_told(desk), told)

    def test_numbers_of_an_order(self):
        desk = Desk(3)
        for number, word in enumerate(("0", "-1", "10", "9" * 60, "-" + "9" * 60, "1" + "0" * 59)):
            self.assertEqual(desk.say(f"order {word} 1 {word}"), str(number))
        told = all_told(desk)
        for word in (
            "-0", "00", "01", "-01", "+1", "", "-", "--1", "1.0", "a", "none", "1" * 61, "-" + "1" * 61, "1;", "1\n",
            "\n1", "1,", "0" * 60,
        ):
            for row in (f"order {word}", f"order 1 {word}", f"order {word} 1", f"order {word} 1 1 1 1"):
                self.refused(NoRow, desk.say, row)
        self.assertEqual(all_told(desk), told)

    def test_how_often_a_hand_is_stepped(self):
        desk = Desk(2)
        for many in (0, 1, 2, 999, 1000):
            touches = int(desk.say("touches"))
            self.assertEqual(desk.say(f"step taker {many}"), desk.say("stage taker"))
            self.assertEqual(int(desk.say("touches")), touches + many)
        told = all_told(desk)
        for word in ("1001", "1002", "-1", "-1000", "10000", str(HUGE), "-0", "00", "01", "", "a", "1.0", "+1", "1\n"):
            for hand in HANDS + ["nobody", ""]:
                self.refused(NoRow, desk.say, f"step {hand} {word}")
        for hand in HANDS:
            for row in (
                f"step {hand} 1 1", f"step {hand}  1", f"step {hand} 1 ", f"step  {hand} 1", f"step {hand} {hand}",
            ):
                self.refused(NoRow, desk.say, row)
        self.assertEqual(all_told(desk), told)

    def test_hands_that_are_none(self):
        desk = Desk(3)
        desk.say("order 5 6")
        desk.say("step giver 20")
        told = all_told(desk)
        for hand in [hand for hand in BAD_HANDS if " " not in hand] + ["asker", "1", "-", "book"]:
            for row in (
                f"step {hand}", f"step {hand} 0", f"step {hand} 5", f"fall {hand}", f"stage {hand}", f"turn {hand}",
            ):
                self.refused(NoHand, desk.say, row)
        self.assertEqual(all_told(desk), told)

    def test_what_is_no_row(self):
        desk = Desk(2)
        desk.say("keep a")
        told = all_told(desk)
        for row in (
            "", " ", "  ", "\n", "Book", "books", "book ", " book", "book\n", "book book", "orders ",
            "orders 1", "cells 0", "touches ", "quiet 1", "stand a", "kept a", "kept ", "step", "fall",
            "stage", "turn", "keep", "go", "forget", "fall giver taker", "stage giver ", "turn  giver",
            "turn giver 1", "keep a b", "keep a ", "keep  a", "go a ", "go  a", "forget a a", "forget a ",
            " step giver", "order  1", "order 1 ", "order 1  2", " order 1", "order ", "hand_in 1", "trail",
            "help", "order; 1", "step,giver", "-", "1", "giver", "say book", "ORDER 1", "fall  giver",
        ):
            self.refused(NoRow, desk.say, row)
        self.assertEqual(all_told(desk), told)

    def test_words_without_signs_that_are_hands_and_names(self):
        desk = Desk(2)
        for row in ("step ", "fall ", "stage ", "turn ", "step  5"):
            self.refused(NoHand, desk.say, row)
        for row in ("keep ", "go ", "forget "):
            self.refused(NoName, desk.say, row)

    def test_a_line_feed_in_a_word(self):
        desk = Desk(2)
        for row in ("step giver\n", "fall \ngiver", "stage giver\ntaker"):
            self.refused(NoHand, desk.say, row)
        for row in ("keep a\n", "keep \na", "keep \n", "go a\nb"):
            self.refused(NoName, desk.say, row)

    def test_a_fall_is_seen_and_keeps_orders_and_book(self):
        desk = Desk(2)
        for number in range(3):
            desk.say(f"order {number}")
        for at in range(30):
            desk.say(f"step {HANDS[at % 2]} 3")
        for hand in HANDS:
            told = all_told(desk)
            self.assertEqual(desk.say(f"fall {hand}"), "rouse")
            self.assertEqual(desk.say(f"turn {hand}"), "none")
            self.assertEqual(all_told(desk)[4:8], told[4:8])

    def test_its_stand(self):
        desk, lane = Desk(3), Lane(3)
        for at in range(150):
            if at % 30 == 0:
                desk.say(f"order {at} -{at + 1}")
                lane.hand_in([at, -at - 1])
            desk.say(f"step {HANDS[at % 2]}")
            lane.step(HANDS[at % 2])
            self.assertEqual(desk.say("stand"), stand_text(stand_of(lane)))
            self.assertEqual(stand_read(desk.say("stand")), stand_of(lane))

    def test_desks_have_nothing_in_common(self):
        one, other = Desk(2), Desk(2)
        told = all_told(other)
        one.say("order 1")
        one.say("step giver 100")
        one.say("keep a")
        self.assertEqual(all_told(other), told)
        self.refused(NoName, other.say, "go a")
        self.assertEqual(all_told(Desk(2)), told)


class NamesTest(RingTest):
    def test_what_is_no_name(self):
        desk = Desk(2)
        desk.say("keep abc")
        told = all_told(desk)
        for name in (
            "", "A", "aB", "a1", "1", "a-b", "a_b", "abcdefghi", "a" * 9, "a" * 50, "-", "a\n", "~", "none.", "`", "{",
        ):
            for deed in ("keep", "go", "forget"):
                self.refused(NoName, desk.say, f"{deed} {name}")
        self.assertEqual(all_told(desk), told)

    def test_names_of_one_and_of_eight_letters(self):
        desk = Desk(2)
        for name in ("a", "z", "abcdefgh", "zzzzzzzz", "stuvwxyz", "ijklmnop", "qr", "none", "book", "ok"):
            self.assertEqual(desk.say(f"keep {name}"), "ok")
        self.assertEqual(desk.say("kept"), "a abcdefgh book ijklmnop none ok qr stuvwxyz z zzzzzzzz")

    def test_names_that_are_the_beginnings_of_others(self):
        desk = Desk(2)
        for many, name in enumerate(("ab", "abc", "a", "b", "abcd")):
            self.assertEqual(desk.say(f"keep {name}"), "ok")
            self.assertEqual(desk.say("step giver"), ["clear", "mute", "marks", "marks", "told"][many])
        self.assertEqual(desk.say("kept"), "a ab abc abcd b")
        for name, stage in (("a", "mute"), ("abcd", "marks"), ("ab", "rouse"), ("abc", "clear"), ("b", "marks")):
            self.assertEqual(desk.say(f"go {name}"), "ok")
            self.assertEqual(desk.say("stage giver"), stage)
        self.assertEqual(desk.say("forget ab"), "ok")
        self.assertEqual(desk.say("kept"), "a abc abcd b")
        self.refused(NoName, desk.say, "go ab")
        self.assertEqual(desk.say("go abc"), "ok")

    def test_names_by_which_none_is_kept(self):
        desk = Desk(2)
        for deed in ("go", "forget"):
            self.refused(NoName, desk.say, f"{deed} a")
        desk.say("keep a")
        desk.say("forget a")
        for deed in ("go", "forget"):
            self.refused(NoName, desk.say, f"{deed} a")
        self.assertEqual(desk.say("keep a"), "ok")
        self.assertEqual(desk.say("go a"), "ok")

    def test_the_fortieth_and_the_forty_first(self):
        desk = Desk(2)
        names = [one + other for one in "abcd" for other in "abcdefghij"]
        for name in names:
            self.assertEqual(desk.say(f"keep {name}"), "ok")
        self.assertEqual(desk.say("kept"), " ".join(names))
        desk.say("step giver 4")
        told = all_told(desk)
        self.refused(NoName, desk.say, "keep x")
        self.refused(NoName, desk.say, "keep aaa")
        self.assertEqual(all_told(desk), told)
        # One that is kept may be kept anew.
        self.assertEqual(desk.say("keep dj"), "ok")
        self.assertEqual(desk.say("go aa"), "ok")
        self.assertEqual(desk.say("stage giver"), "rouse")
        self.assertEqual(desk.say("go dj"), "ok")
        self.assertEqual(desk.say("stage giver"), "marks")
        self.assertEqual(desk.say("forget aa"), "ok")
        self.assertEqual(desk.say("keep x"), "ok")
        self.refused(NoName, desk.say, "keep aa")
        self.assertEqual(desk.say("kept"), " ".join(names[1:] + ["x"]))

    def test_a_stand_that_is_kept_stays(self):
        desk = Desk(2)
        desk.say("order 4 5")
        desk.say("step giver 11")
        told = desk.say("stand")
        desk.say("keep here")
        for _ in range(3):
            desk.say("step giver 100")
            desk.say("step taker 100")
            desk.say("order 6")
            desk.say("fall giver")
            self.assertNotEqual(desk.say("stand"), told)
            self.assertEqual(desk.say("go here"), "ok")
            self.assertEqual((desk.say("stand"), desk.say("touches"), desk.say("orders")), (told, "0", "4 5"))
            self.assertEqual(desk.say("step giver 2"), "look")
            self.assertEqual(desk.say("touches"), "2")

    def test_keeping_changes_nothing_of_the_lane(self):
        desk = Desk(3)
        desk.say("order 1 2 3")
        desk.say("step giver 15")
        told = all_told(desk)
        desk.say("keep a")
        self.assertEqual(all_told(desk)[:-1], told[:-1])
        desk.say("forget a")
        self.assertEqual(all_told(desk), told)

    def test_a_name_kept_anew_has_the_newer_stand(self):
        desk = Desk(2)
        desk.say("keep a")
        desk.say("step taker 2")
        desk.say("keep a")
        desk.say("step taker 2")
        desk.say("go a")
        self.assertEqual((desk.say("stage taker"), desk.say("kept")), ("mute", "a"))

    def test_going_on_from_a_stand(self):
        desk = Desk(2)
        for number in range(4):
            desk.say(f"order {number} {number}")
        desk.say("step giver 33")
        desk.say("step taker 21")
        desk.say("keep a")
        rows = [f"step {HANDS[at % 2]} {at % 5}" for at in range(60)]
        one = [desk.say(row) for row in rows] + [desk.say("stand")]
        desk.say("go a")
        self.assertEqual([desk.say(row) for row in rows] + [desk.say("stand")], one)


class WovenDeskTest(RingTest):
    def say(self, desk, model, row):
        asked = model.answer(row)
        if isinstance(asked, str):
            told = desk.say(row)
            self.assertEqual((row, told), (row, asked))
        else:
            self.refused(asked, desk.say, row)

    def row(self, chance):
        hand = chance.choice(HANDS + HANDS + HANDS + ["giver", "nobody", ""])
        name = chance.choice(["a", "b", "ab", "abc", "abcdefgh", "abcdefghi", "A", ""])
        number = chance.choice(["0", "7", "-3", "12", str(HUGE), str(-HUGE)])
        many = chance.choice(["0", "1", "2", "5", "9", "17", "40", "1000", "1001", "-1", "x"])
        row = chance.choice([
            f"order {number}", f"order {number} {number}", f"order {number} 5 {number}", "order", f"step {hand}",
            f"step {hand} {many}", f"step {hand} {many}", f"step {hand} {many}", f"step {hand} {many}", f"fall {hand}",
            f"stage {hand}", f"turn {hand}", "book", "orders", "cells", "touches", "quiet", "stand", f"keep {name}",
            f"go {name}", f"forget {name}", "kept",
        ])
        spoil = chance.random()
        if spoil < 0.02:
            return row + " "
        if spoil < 0.04:
            return row.replace(" ", "  ", 1)
        if spoil < 0.06:
            at = chance.randrange(len(row))
            return row[:at] + chance.choice("abz019- ;\n") + row[at + 1:]
        return row

    def test_any_rows(self):
        for seed in range(30):
            chance = random.Random(seed)
            size = chance.choice([2, 2, 3, 5, 8])
            desk, model = Desk(size), DeskModel(size)
            for _ in range(250):
                self.say(desk, model, self.row(chance))
            for row in ASKED:
                self.say(desk, model, row)

    def test_each_row_spoilt_by_one_sign(self):
        desk, model = Desk(2), DeskModel(2)
        for row in ("order 1 -2", "step giver 10", "fall taker", "turn giver", "quiet", "keep abc", "go abc", "kept"):
            for at in range(len(row) + 1):
                for sign in " a10-;\n~":
                    for text in (row[:at] + sign + row[at:], row[:at] + sign + row[at + 1:], row[:at] + row[at + 1:]):
                        self.say(desk, model, text)
        for row in ASKED:
            self.say(desk, model, row)
