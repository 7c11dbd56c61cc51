"""Where both sides changed one thing in different ways, and the choices."""

from twobooks.cells import cell_of, numbers_of
from twobooks.kinds import (
    GREATEST_CHOICE, LEFT, LEFT_HAS_NOT, NO_CHOICE, NO_CONFLICT, ORDER_CONFLICT, RIGHT, RIGHT_HAS_NOT, TEXT_CONFLICT)
from twobooks.lines import merged_text
from twobooks.refusals import CHOICE_OUTSIDE, NO_SUCH_CONFLICT
from twobooks.threeway import agreed


def common_orders(books):
    """The numbers of the common cells in the base's order, in the left's and in the right's."""
    left = numbers_of(books.sides[LEFT].cells)
    right = numbers_of(books.sides[RIGHT].cells)
    common = [number for number in numbers_of(books.base_cells) if number in left and number in right]
    left_order = [number for number in left if number in common]
    right_order = [number for number in right if number in common]
    return (common, left_order, right_order)


def agreed_order(orders):
    return agreed(orders[0], orders[1], orders[2])


def unchanged(base_cell, cell):
    return cell.text == base_cell.text and cell.mark == base_cell.mark


def conflict_at(base_cell, left, right):
    """The kind of the conflict at a base cell; left or right is None where that side hasn't it."""
    if left is None and right is None:
        return NO_CONFLICT
    if left is None:
        return NO_CONFLICT if unchanged(base_cell, right) else LEFT_HAS_NOT
    if right is None:
        return NO_CONFLICT if unchanged(base_cell, left) else RIGHT_HAS_NOT
    if merged_text(base_cell.text, left.text, right.text) is None:
        return TEXT_CONFLICT
    return NO_CONFLICT


def conflicts_of(books):
    """The conflicts in the order in which they're told, each as its kind and number."""
    conflicts = []
    for base_cell in books.base_cells:
        number = base_cell.number
        left = cell_of(books.sides[LEFT].cells, number)
        right = cell_of(books.sides[RIGHT].cells, number)
        kind = conflict_at(base_cell, left, right)
        if kind != NO_CONFLICT:
            conflicts.append((kind, number))
    if agreed_order(common_orders(books)) is None:
        conflicts.append((ORDER_CONFLICT, 0))
    return conflicts


def choice_of(books, conflict):
    return books.choices.get(conflict, NO_CHOICE)


def count_without_choice(books):
    return len([conflict for conflict in conflicts_of(books) if choice_of(books, conflict) == NO_CHOICE])


def tell_conflicts(books):
    conflicts = conflicts_of(books)
    told = [len(conflicts)]
    for kind, number in conflicts:
        told.extend([kind, number, choice_of(books, (kind, number))])
    return told


def choose(books, kind, number, choice):
    if (kind, number) not in conflicts_of(books):
        return NO_SUCH_CONFLICT
    if choice < NO_CHOICE or choice > GREATEST_CHOICE:
        return CHOICE_OUTSIDE
    books.choices[(kind, number)] = choice
    return count_without_choice(books)
