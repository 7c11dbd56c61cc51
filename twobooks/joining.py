"""The merged document: which cells stand in it, in which order, with which numbers."""

from twobooks.books import Side
from twobooks.cells import Cell, GREATEST_NUMBER, MOST_CELLS, cell_of, number_above, numbers_of
from twobooks.conflicts import agreed_order, choice_of, common_orders, count_without_choice
from twobooks.kinds import BASE_CHOICE, LEFT, LEFT_HAS_NOT, ORDER_CONFLICT, RIGHT, RIGHT_HAS_NOT, TEXT_CONFLICT
from twobooks.lines import merged_text
from twobooks.refusals import CHOICE_MISSING, NO_REFUSAL, TOO_GREAT
from twobooks.telling import tell_cells
from twobooks.threeway import chosen

# No cell has this number: the loose cells in front are kept by it.
FRONT = 0


class MergedCell:
    """A cell of the merged document, and its number on each side, 0 where that side hasn't it."""

    def __init__(self, cell, on_left, on_right):
        self.cell = cell
        self.on_left = on_left
        self.on_right = on_right


class Outcome:
    """The merged cells, or the refusal that fits and no cells."""

    def __init__(self, refusal, merged):
        self.refusal = refusal
        self.merged = merged


def merged_order(books, orders):
    order = agreed_order(orders)
    if order is None:
        return chosen(choice_of(books, (ORDER_CONFLICT, 0)), orders[0], orders[1], orders[2])
    return order


def merged_common_cell(books, number):
    base = cell_of(books.base_cells, number)
    left = cell_of(books.sides[LEFT].cells, number)
    right = cell_of(books.sides[RIGHT].cells, number)
    text = merged_text(base.text, left.text, right.text)
    if text is None:
        text = chosen(choice_of(books, (TEXT_CONFLICT, number)), base.text, left.text, right.text)
    mark = right.mark if left.mark == base.mark else left.mark
    return MergedCell(Cell(number, mark, text), number, number)


def loose_cell(books, side, cell):
    """A side's cell that isn't common, as it stands in the merged document; None if it's dropped."""
    base_cell = cell_of(books.base_cells, cell.number)
    if base_cell is None:
        return cell
    kind = LEFT_HAS_NOT if side == RIGHT else RIGHT_HAS_NOT
    choice = choice_of(books, (kind, cell.number))
    if choice == side:
        return cell
    if choice == BASE_CHOICE:
        return base_cell
    return None


def loose_cells(books, side, common):
    """A side's loose cells by the number of the common cell that they're behind, or by FRONT."""
    behind = FRONT
    loose = {FRONT: []}
    for cell in books.sides[side].cells:
        if cell.number in common:
            behind = cell.number
            loose[behind] = []
        else:
            kept = loose_cell(books, side, cell)
            if kept is not None:
                loose[behind].append(kept)
    return loose


def sort_keys(cells, base_numbers):
    """What cells are compared by: these lists compare as the lists of cells do."""
    return [(cell.text, cell.mark, cell.number if cell.number in base_numbers else 0) for cell in cells]


def loose_together(left, right, base_numbers):
    """The loose cells of both sides at one place: once if they're equal, else the lesser list first."""
    left_keys = sort_keys(left, base_numbers)
    right_keys = sort_keys(right, base_numbers)
    if left_keys == right_keys:
        return [MergedCell(cell, cell.number, other.number) for cell, other in zip(left, right)]
    of_left = [MergedCell(cell, cell.number, 0) for cell in left]
    of_right = [MergedCell(cell, 0, cell.number) for cell in right]
    return of_left + of_right if left_keys < right_keys else of_right + of_left


def cells_in_order(books):
    """The merged document, but for the numbers of the new cells, which are still a side's."""
    orders = common_orders(books)
    base_numbers = numbers_of(books.base_cells)
    left = loose_cells(books, LEFT, orders[0])
    right = loose_cells(books, RIGHT, orders[0])
    merged = loose_together(left[FRONT], right[FRONT], base_numbers)
    for number in merged_order(books, orders):
        merged.append(merged_common_cell(books, number))
        merged.extend(loose_together(left[number], right[number], base_numbers))
    return merged


def numbered(books, merged):
    base_numbers = numbers_of(books.base_cells)
    free = number_above(books.base_cells + books.sides[LEFT].cells + books.sides[RIGHT].cells)
    numbered_cells = []
    for one in merged:
        cell = one.cell
        if cell.number not in base_numbers:
            cell = Cell(free, cell.mark, cell.text)
            free += 1
        numbered_cells.append(MergedCell(cell, one.on_left, one.on_right))
    return numbered_cells


def too_great(merged):
    return len(merged) > MOST_CELLS or any([one.cell.number > GREATEST_NUMBER for one in merged])


def merge_of(books):
    if count_without_choice(books) > 0:
        return Outcome(CHOICE_MISSING, [])
    merged = numbered(books, cells_in_order(books))
    if too_great(merged):
        return Outcome(TOO_GREAT, [])
    return Outcome(NO_REFUSAL, merged)


def tell_merged(books):
    outcome = merge_of(books)
    if outcome.refusal != NO_REFUSAL:
        return [outcome.refusal]
    return tell_cells([one.cell for one in outcome.merged])


def tell_origins(books):
    outcome = merge_of(books)
    if outcome.refusal != NO_REFUSAL:
        return [outcome.refusal]
    told = [len(outcome.merged)]
    for one in outcome.merged:
        told.extend([one.cell.number, one.on_left, one.on_right])
    return told


def adopt(books):
    outcome = merge_of(books)
    if outcome.refusal != NO_REFUSAL:
        return outcome.refusal
    cells = [one.cell for one in outcome.merged]
    next_number = number_above(cells + books.sides[LEFT].cells + books.sides[RIGHT].cells)
    books.base_cells = cells
    books.sides = {LEFT: Side(cells, next_number), RIGHT: Side(cells, next_number)}
    books.choices = {}
    return len(cells)
