"""The calls that tell a document, and how a side differs from the base."""

from twobooks.cells import cell_of, numbers_of
from twobooks.lines import change_of
from twobooks.refusals import NO_CELL, NO_DOCUMENT, NO_SIDE

BASE_DOCUMENT = 0

UNCHANGED = 0
DROPPED = 1
NEW = 2
TEXT_DIFFERS = 3
MARK_DIFFERS = 4
BOTH_DIFFER = 5


def tell_cells(cells):
    told = [len(cells)]
    for cell in cells:
        told.extend([cell.number, cell.mark, len(cell.text)])
        told.extend(cell.text)
    return told


def tell_document(books, which):
    if which == BASE_DOCUMENT:
        return tell_cells(books.base_cells)
    if which not in books.sides:
        return [NO_DOCUMENT]
    return tell_cells(books.sides[which].cells)


def difference(base_cell, cell):
    """The kind of a base cell's change on a side; cell is None where the side hasn't it."""
    if cell is None:
        return DROPPED
    if cell.text == base_cell.text:
        return UNCHANGED if cell.mark == base_cell.mark else MARK_DIFFERS
    return TEXT_DIFFERS if cell.mark == base_cell.mark else BOTH_DIFFER


def in_another_order(base_numbers, side_numbers):
    of_base = [number for number in base_numbers if number in side_numbers]
    of_side = [number for number in side_numbers if number in base_numbers]
    return of_base != of_side


def tell_changes(books, side):
    if side not in books.sides:
        return [NO_SIDE]
    cells = books.sides[side].cells
    told = []
    for base_cell in books.base_cells:
        kind = difference(base_cell, cell_of(cells, base_cell.number))
        if kind != UNCHANGED:
            told.extend([base_cell.number, kind])
    base_numbers = numbers_of(books.base_cells)
    for cell in cells:
        if cell.number not in base_numbers:
            told.extend([cell.number, NEW])
    moved = 1 if in_another_order(base_numbers, numbers_of(cells)) else 0
    return [moved, len(told) // 2] + told


def tell_change(books, side, number):
    if side not in books.sides:
        return [NO_SIDE]
    base_cell = cell_of(books.base_cells, number)
    cell = cell_of(books.sides[side].cells, number)
    if base_cell is None or cell is None:
        return [NO_CELL]
    change = change_of(base_cell.text, cell.text)
    told = [change.begin, change.end, len(change.new_lines)]
    for line in change.new_lines:
        told.append(len(line))
        told.extend(line)
    return told
