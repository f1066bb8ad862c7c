"""Texts: cells and stands, written and read."""

from slipring.board import CELLS_OF_A_PLACE, size_of_cells
from slipring.errors import NoText
from slipring.stands import check_stand

FIGURES = "0123456789"
MOST_FIGURES = 60
STAND_ROWS = 8
NO_TURN_WORD = "none"
NO_ORDERS_WORD = "-"


def is_number(word):
    """Whether the word writes a whole number, the one way in which it is written."""
    figures = word[1:] if word.startswith("-") else word
    if len(figures) < 1 or len(figures) > MOST_FIGURES:
        return False
    if figures.startswith("0"):
        # No 0 ahead of other figures, and no minus ahead of 0.
        return word == "0"
    return all([sign in FIGURES for sign in figures])


def number_read(word):
    """The number that the word writes."""
    if not is_number(word):
        raise NoText("a word writes no number")
    return int(word)


def numbers_read(words):
    """The numbers that the words write."""
    return tuple([number_read(word) for word in words])


def numbers_text(numbers):
    """The numbers with blanks between."""
    return " ".join([str(number) for number in numbers])


def turn_text(turn):
    """The turn, or the word for none."""
    return NO_TURN_WORD if turn is None else str(turn)


def turn_read(word):
    """The turn that the word writes, None for the word for none."""
    return None if word == NO_TURN_WORD else number_read(word)


def orders_text(orders):
    """The orders, one behind the other."""
    if len(orders) == 0:
        return NO_ORDERS_WORD
    return "; ".join([numbers_text(order) for order in orders])


def orders_read(text):
    """The orders that the text writes."""
    if text == NO_ORDERS_WORD:
        return ()
    return tuple([numbers_read(piece.split(" ")) for piece in text.split("; ")])


def cells_text(cells):
    """The cells in rows of four, place by place."""
    size_of_cells(cells)
    rows = []
    for start in range(0, len(cells), CELLS_OF_A_PLACE):
        rows.append(numbers_text(cells[start:start + CELLS_OF_A_PLACE]))
    return "\n".join(rows)


def cells_read(text):
    """The cells that the text writes."""
    cells = []
    for row in text.split("\n"):
        words = row.split(" ")
        if len(words) != CELLS_OF_A_PLACE:
            raise NoText("a row has four numbers")
        cells.extend(numbers_read(words))
    size_of_cells(cells)
    return cells


def row_text(word, numbers):
    """A row of the word and the numbers behind it, the word alone where there are none."""
    return " ".join([word] + [str(number) for number in numbers])


def row_words(row, word):
    """The words of the row behind its first one, which is to be this word."""
    words = row.split(" ")
    if words[0] != word:
        raise NoText("a row does not begin with its word")
    return words[1:]


def row_read(row, word):
    """The numbers of the row behind its first word."""
    return numbers_read(row_words(row, word))


def orders_row_read(row, word):
    """The orders of the row behind its first word."""
    row_words(row, word)
    return orders_read(row[len(word) + 1:])


def stand_text(stand):
    """The stand in eight rows."""
    check_stand(stand)
    cells, giver, taker, orders, book = stand
    stage, turn, marks, order, part = giver
    giver_row = f"giver {stage} {turn_text(turn)} {order} {part}"
    taker_stage, taker_turn, taker_marks, first, number, left, parts = taker
    taker_row = f"taker {taker_stage} {turn_text(taker_turn)} {turn_text(first)} {number} {left}"
    rows = [row_text("cells", cells), giver_row, row_text("marks", marks), taker_row]
    rows += [row_text("marks", taker_marks), row_text("parts", parts)]
    rows += [f"orders {orders_text(orders)}", f"book {orders_text(book)}"]
    return "\n".join(rows)


def giver_read(row, marks_row):
    """What the giver has in mind, by its row and the row of its marks."""
    words = row_words(row, "giver")
    if len(words) != 4:
        raise NoText("the giver's row has five words")
    stage, turn, order, part = words
    marks = row_read(marks_row, "marks")
    return (stage, turn_read(turn), marks, number_read(order), number_read(part))


def taker_read(row, marks_row, parts_row):
    """What the taker has in mind, by its row and the rows of its marks and its parts."""
    words = row_words(row, "taker")
    if len(words) != 5:
        raise NoText("the taker's row has six words")
    stage, turn, first, number, left = words
    marks = row_read(marks_row, "marks")
    parts = row_read(parts_row, "parts")
    return (stage, turn_read(turn), marks, turn_read(first), number_read(number), number_read(left), parts)


def stand_read(text):
    """The stand that the text writes."""
    rows = text.split("\n")
    if len(rows) != STAND_ROWS:
        raise NoText("a stand has eight rows")
    cells = row_read(rows[0], "cells")
    giver = giver_read(rows[1], rows[2])
    taker = taker_read(rows[3], rows[4], rows[5])
    orders = orders_row_read(rows[6], "orders")
    book = orders_row_read(rows[7], "book")
    stand = (cells, giver, taker, orders, book)
    check_stand(stand)
    return stand
