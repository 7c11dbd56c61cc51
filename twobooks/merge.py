"""The calls as one list of whole numbers, and their answers as another."""

from twobooks.books import Books, copy_side, reset_side, set_base, swap_sides
from twobooks.conflicts import choose, tell_conflicts
from twobooks.edits import drop_cell, hide_cell, move_cell, new_cell, write_cell
from twobooks.joining import adopt, tell_merged, tell_origins
from twobooks.telling import tell_change, tell_changes, tell_document

BASE = 0
NEW = 1
WRITE = 2
MOVE = 3
DROP = 4
HIDE = 5
COPY = 6
RESET = 7
SWAP = 8
DOCUMENT = 9
CHANGES = 10
CHANGE = 11
CONFLICTS = 12
CHOOSE = 13
MERGED = 14
ORIGINS = 15

# At the place of each call's number: how many whole numbers it has, and then how many rows.
WHOLES = (0, 2, 2, 3, 2, 3, 1, 1, 0, 1, 1, 2, 0, 3, 0, 0, 0)
ROWS = (1, 1, 1, 0, 0, 0, 0, 0, 0, 0, 0, 0, 0, 0, 0, 0, 0)


def answer_on_side(books, call, wholes, row):
    """The answer of a call that edits one side."""
    side = wholes[0]
    if call == NEW:
        return new_cell(books, side, wholes[1], row)
    if call == WRITE:
        return write_cell(books, side, wholes[1], row)
    if call == MOVE:
        return move_cell(books, side, wholes[1], wholes[2])
    if call == DROP:
        return drop_cell(books, side, wholes[1])
    if call == HIDE:
        return hide_cell(books, side, wholes[1], wholes[2])
    if call == COPY:
        return copy_side(books, side)
    return reset_side(books, side)


def edited_side(books, call, wholes, row):
    answer = answer_on_side(books, call, wholes, row)
    # An edit that is done may change the conflicts, so none of their choices is kept; a refused one keeps them all.
    if answer >= 0:
        books.choices = {}
    return answer


def answer_telling(books, call, wholes):
    """The numbers of a call that changes nothing."""
    if call == DOCUMENT:
        return tell_document(books, wholes[0])
    if call == CHANGES:
        return tell_changes(books, wholes[0])
    if call == CHANGE:
        return tell_change(books, wholes[0], wholes[1])
    if call == CONFLICTS:
        return tell_conflicts(books)
    if call == MERGED:
        return tell_merged(books)
    return tell_origins(books)


def answer_of(books, call, wholes, row):
    """The numbers that one call answers."""
    if call == BASE:
        return [set_base(books, row)]
    if call <= RESET:
        return [edited_side(books, call, wholes, row)]
    if call == SWAP:
        return [swap_sides(books)]
    if call == CHOOSE:
        return [choose(books, wholes[0], wholes[1], wholes[2])]
    if call <= ORIGINS:
        return answer_telling(books, call, wholes)
    return [adopt(books)]


def answers(calls):
    """For each call in order: how many numbers it answers, then these."""
    books = Books()
    told = []
    place = 0
    while place < len(calls):
        call = calls[place]
        begin = place + 1
        place = begin + WHOLES[call]
        wholes = calls[begin:place]
        row = []
        if ROWS[call] == 1:
            begin = place + 1
            place = begin + calls[place]
            row = calls[begin:place]
        answer = answer_of(books, call, wholes, row)
        told.append(len(answer))
        told.extend(answer)
    return told
