"""The calls that edit the cells of one side.

Each looks at its refusals in the order of its own sentence, and changes something only behind the last of them.
"""

from twobooks.cells import Cell, GREATEST_NUMBER, MOST_CELLS, place_behind, place_of, refusal_of_texts
from twobooks.refusals import (
    NO_CELL, NO_FIT_AFTER, NO_MARK, NO_REFUSAL, NO_SIDE, NOTHING_CHANGES, NUMBERS_USED_UP, TOO_MANY_CELLS)


def new_cell(books, side, after, text):
    if side not in books.sides:
        return NO_SIDE
    edited = books.sides[side]
    place = place_behind(edited.cells, after)
    if place is None:
        return NO_FIT_AFTER
    refusal = refusal_of_texts([text])
    if refusal != NO_REFUSAL:
        return refusal
    if len(edited.cells) >= MOST_CELLS:
        return TOO_MANY_CELLS
    number = edited.next_number
    if number > GREATEST_NUMBER:
        return NUMBERS_USED_UP
    edited.cells.insert(place, Cell(number, 0, text))
    edited.next_number = number + 1
    return number


def refusal_of_cell(books, side, number):
    """The refusal that stands first in every call on one cell of a side."""
    if side not in books.sides:
        return NO_SIDE
    if place_of(books.sides[side].cells, number) is None:
        return NO_CELL
    return NO_REFUSAL


def write_cell(books, side, number, text):
    refusal = refusal_of_cell(books, side, number)
    if refusal != NO_REFUSAL:
        return refusal
    refusal = refusal_of_texts([text])
    if refusal != NO_REFUSAL:
        return refusal
    cells = books.sides[side].cells
    place = place_of(cells, number)
    if cells[place].text == text:
        return NOTHING_CHANGES
    cells[place] = Cell(number, cells[place].mark, text)
    return 0


def move_cell(books, side, number, after):
    refusal = refusal_of_cell(books, side, number)
    if refusal != NO_REFUSAL:
        return refusal
    edited = books.sides[side]
    old_place = place_of(edited.cells, number)
    # Without the moved cell, after fits only as another cell, and an equal place is an equal order.
    others = [cell for cell in edited.cells if cell.number != number]
    new_place = place_behind(others, after)
    if new_place is None:
        return NO_FIT_AFTER
    if new_place == old_place:
        return NOTHING_CHANGES
    others.insert(new_place, edited.cells[old_place])
    edited.cells = others
    return 0


def drop_cell(books, side, number):
    refusal = refusal_of_cell(books, side, number)
    if refusal != NO_REFUSAL:
        return refusal
    cells = books.sides[side].cells
    cells.pop(place_of(cells, number))
    return 0


def hide_cell(books, side, number, mark):
    refusal = refusal_of_cell(books, side, number)
    if refusal != NO_REFUSAL:
        return refusal
    if mark != 0 and mark != 1:
        return NO_MARK
    cells = books.sides[side].cells
    place = place_of(cells, number)
    if cells[place].mark == mark:
        return NOTHING_CHANGES
    cells[place] = Cell(number, mark, cells[place].text)
    return 0
