"""Hands: what the giver and the taker have in common.

A deed, at_rouse and so on, is one step of a hand at that stage: it touches one cell, and tells
the stage at which the hand is then.
"""

from slipring.board import NO_TURN, RUNG, STILL, bell_cell, card_cell, mark_cell
from slipring.turns import place_of


def write_card(hand, number):
    """Write the number to the hand's own card."""
    hand.board.write(card_cell(hand.board.size, hand.name), number)


def ring_other(hand):
    """Write 1 to the other hand's bell."""
    hand.board.write(bell_cell(hand.board.size, hand.other), RUNG)


def still_bell(hand):
    """Write 0 to the hand's own bell."""
    hand.board.write(bell_cell(hand.board.size, hand.name), STILL)


def may_go_on(hand):
    """Read the mark of its turn's place: whether it may give, or take, there."""
    return hand.board.read(mark_cell(hand.place())) == hand.awaited_mark()


def at_rouse(hand):
    """Ring the other hand: it may wait for a ring that the hand's elder owed it."""
    ring_other(hand)
    return "clear"


def at_clear(hand):
    """Take back what the hand's elder may have wished."""
    write_card(hand, NO_TURN)
    return "mute"


def at_mute(hand):
    """Still the bell that may have been rung for the hand's elder."""
    still_bell(hand)
    return "marks"


def at_marks(hand):
    """Read the next place's mark; by all of them the hand knows its turn."""
    marks = hand.marks_read + [hand.board.read(mark_cell(len(hand.marks_read)))]
    if len(marks) < hand.board.size:
        hand.marks_read = marks
        return "marks"
    hand.know_turn(marks)
    hand.marks_read = []
    return hand.stage_behind_marks


def at_look(hand):
    """Look whether the hand may give, or take, at its turn."""
    return "number" if may_go_on(hand) else "wish"


def at_wish(hand):
    """Ask to be rung at its turn."""
    write_card(hand, hand.here)
    return "again"


def at_again(hand):
    """Look once more: the other hand may have passed by ahead of the wish."""
    return "unwish" if may_go_on(hand) else "sleep"


def at_sleep(hand):
    """Sleep on unless the bell was rung."""
    bell = hand.board.read(bell_cell(hand.board.size, hand.name))
    return "sleep" if bell == STILL else "hush"


def at_hush(hand):
    """Still the bell."""
    still_bell(hand)
    return "unwish"


def at_unwish(hand):
    """Take the wish back."""
    write_card(hand, NO_TURN)
    return "look"


def at_card(hand):
    """Look whether the other hand waits for what was just done."""
    card = hand.board.read(card_cell(hand.board.size, hand.other))
    return "ring" if card == hand.turn_served() else hand.go_on()


def at_ring(hand):
    """Ring the other hand."""
    ring_other(hand)
    return hand.go_on()


DEEDS = {
    "rouse": at_rouse,
    "clear": at_clear,
    "mute": at_mute,
    "marks": at_marks,
    "look": at_look,
    "wish": at_wish,
    "again": at_again,
    "sleep": at_sleep,
    "hush": at_hush,
    "unwish": at_unwish,
    "card": at_card,
    "ring": at_ring,
}


class Hand:
    """A hand of a board, which comes up. Giver and Taker add what they do each in its own way:

    know_turn(marks), by the marks of all places; awaited_mark(), at which it may give, or take;
    turn_served(), the turn of a card that it rings for; go_on(), the stage behind that;
    resting(), whether its step touches nothing; own_deed(), a step at a stage that it alone has.
    """

    def __init__(self, board, name, other, stage_behind_marks):
        self.board = board
        self.name = name
        self.other = other
        self.stage_behind_marks = stage_behind_marks
        self.stage_now = "rouse"
        self.marks_read = []
        self.here = None
        # Its touches, each with its name ahead; the two hands of a lane keep them in one list.
        self.touched = []

    def stage(self):
        """The stage at which it is."""
        return self.stage_now

    def turn(self):
        """Its turn, None until it knows it."""
        return self.here

    def place(self):
        """The place of its turn."""
        return place_of(self.board.size, self.here)

    def step(self):
        """Touch one cell, and tell True; a hand at rest touches none, and tells False."""
        if self.resting():
            return False
        if self.stage_now in DEEDS:
            deed = DEEDS[self.stage_now]
            self.stage_now = deed(self)
        else:
            self.stage_now = self.own_deed()
        self.touched.append((self.name,) + self.board.last_touch())
        return True

    def recall_start(self, stage, turn, marks):
        """Be at this stage, with this turn and these marks in mind."""
        self.stage_now = stage
        self.here = turn
        self.marks_read = list(marks)

    def sleeping(self):
        """Whether it sleeps and was not rung, asked without a touch."""
        bell = self.board.all_cells()[bell_cell(self.board.size, self.name)]
        return self.stage_now == "sleep" and bell == STILL

    def still(self):
        """Whether its steps change nothing."""
        return self.resting() or self.sleeping()
