"""The desk: is told rows of words, and answers each by a text.

A row's words are looked at as a whole ahead of all else; only then are names and hands.
"""

from slipring.errors import NoName, NoRow
from slipring.lane import Lane
from slipring.stands import lane_at, stand_of
from slipring.texts import is_number, numbers_text, orders_text, stand_text, turn_text

MOST_STEPS = 1000
MOST_NAMES = 40
MOST_LETTERS = 8
LETTERS = "abcdefghijklmnopqrstuvwxyz"


def tell_book(desk):
    """All orders that were taken."""
    return orders_text(desk.lane.book())


def tell_orders(desk):
    """All orders that were handed in."""
    return orders_text(desk.lane.orders())


def tell_cells(desk):
    """All cells."""
    return numbers_text(desk.lane.cells())


def tell_touches(desk):
    """How often the lane's board was touched."""
    return str(desk.lane.board.touches())


def tell_quiet(desk):
    """Whether the lane is quiet."""
    return "yes" if desk.lane.quiet() else "no"


def tell_stand(desk):
    """The lane's stand."""
    return stand_text(stand_of(desk.lane))


def tell_kept(desk):
    """All names by which stands are kept."""
    return " ".join(sorted(desk.kept_stands)) if len(desk.kept_stands) > 0 else "none"


def fall_hand(desk, hand):
    """Let the hand fall."""
    desk.lane.fall(hand)
    return desk.lane.stage(hand)


def tell_stage(desk, hand):
    """The hand's stage."""
    return desk.lane.stage(hand)


def tell_turn(desk, hand):
    """The hand's turn."""
    return turn_text(desk.lane.turn(hand))


def keep_stand(desk, name):
    """Keep the lane's stand by the name."""
    check_name(name)
    if name not in desk.kept_stands and len(desk.kept_stands) >= MOST_NAMES:
        raise NoName("no more names are kept")
    desk.kept_stands[name] = stand_of(desk.lane)
    return "ok"


def go_to_stand(desk, name):
    """Go on from the stand that is kept by the name."""
    check_kept(desk, name)
    desk.lane = lane_at(desk.kept_stands[name])
    return "ok"


def forget_stand(desk, name):
    """Keep nothing by the name."""
    check_kept(desk, name)
    desk.kept_stands.pop(name)
    return "ok"


# Rows of one word, and rows of a word and a hand or a name.
ALONE = {
    "book": tell_book,
    "orders": tell_orders,
    "cells": tell_cells,
    "touches": tell_touches,
    "quiet": tell_quiet,
    "stand": tell_stand,
    "kept": tell_kept,
}
WITH_A_WORD = {
    "fall": fall_hand,
    "stage": tell_stage,
    "turn": tell_turn,
    "keep": keep_stand,
    "go": go_to_stand,
    "forget": forget_stand,
}


def check_name(name):
    """Refuse what is no name."""
    if len(name) < 1 or len(name) > MOST_LETTERS or not all([letter in LETTERS for letter in name]):
        raise NoName("a name has from 1 to 8 small letters")


def check_kept(desk, name):
    """Refuse a name by which no stand is kept."""
    if name not in desk.kept_stands:
        raise NoName("no stand is kept by this name")


def number_told(word):
    """The number that a word of a row writes."""
    if not is_number(word):
        raise NoRow("a word of the row writes no number")
    return int(word)


def many_told(words):
    """How many steps the words behind the hand ask for."""
    if len(words) == 0:
        return 1
    many = number_told(words[0])
    if len(words) > 1 or many not in range(MOST_STEPS + 1):
        raise NoRow("a hand is stepped from 0 to 1000 times")
    return many


class Desk:
    """A desk with a lane, which keeps stands by names."""

    def __init__(self, size):
        self.lane = Lane(size)
        self.kept_stands = {}

    def say(self, row):
        """The answer to the row."""
        word, *rest = row.split(" ")
        if word == "order":
            return self.say_order(rest)
        if word == "step" and len(rest) > 0:
            return self.say_step(rest[0], many_told(rest[1:]))
        if word in ALONE and len(rest) == 0:
            deed = ALONE[word]
            return deed(self)
        if word in WITH_A_WORD and len(rest) == 1:
            deed = WITH_A_WORD[word]
            return deed(self, rest[0])
        raise NoRow("the desk knows no such row")

    def say_order(self, words):
        """Hand an order in, and tell its number."""
        return str(self.lane.hand_in([number_told(word) for word in words]))

    def say_step(self, hand, many):
        """Step the hand so many times, and tell its stage."""
        stage = self.lane.stage(hand)
        for at in range(many):
            self.lane.step(hand)
            stage = self.lane.stage(hand)
        return stage
