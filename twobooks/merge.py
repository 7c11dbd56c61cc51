"""The calls as one list of whole numbers, and their answers as another."""

from twobooks.books import Books, copy_side, reset_side, set_base, swap_sides
from twobooks.edits import drop_cell, hide_cell, move_cell, new_cell, write_cell

BASE = 0
NEW = 1
WRITE = 2
MOVE = 3
DROP = 4
HIDE = 5
COPY = 6
RESET = 7
SWAP = 8

# At the place of each call's number: how many whole numbers it has, and then how many rows.
WHOLES = (0, 2, 2, 3, 2, 3, 1, 1, 0)
ROWS = (1, 1, 1, 0, 0, 0, 0, 0, 0)


def answer_on_cell(books, call, wholes, row):
    side = wholes[0]
    if call == NEW:
        return new_cell(books, side, wholes[1], row)
    if call == WRITE:
        return write_cell(books, side, wholes[1], row)
    if call == MOVE:
        return move_cell(books, side, wholes[1], wholes[2])
    if call == DROP:
        return drop_cell(books, side, wholes[1])
    return hide_cell(books, side, wholes[1], wholes[2])


def answer_of(books, call, wholes, row):
    """The numbers that one call answers."""
    if call == BASE:
        return [set_base(books, row)]
    if call == COPY:
        return [copy_side(books, wholes[0])]
    if call == RESET:
        return [reset_side(books, wholes[0])]
    if call == SWAP:
        return [swap_sides(books)]
    return [answer_on_cell(books, call, wholes, row)]


def answers(calls):
    """For each call in order: how many numbers it answers, then these."""
    books = Books()
    told = []
    place = 0
    while place < len(calls):
        call = calls[place]
        begin = place + 1
        place = begin + WHOLES[call]
        wholes = calls[begin:place]
        row = []
        if ROWS[call] == 1:
            begin = place + 1
            place = begin + calls[place]
            row = calls[begin:place]
        answer = answer_of(books, call, wholes, row)
        told.append(len(answer))
        told.extend(answer)
    return told
