"""The base and the two sides, and the calls that set, copy and exchange them."""

from twobooks.cells import Cell, MOST_CELLS, number_above, refusal_of_texts
from twobooks.kinds import EXCHANGED_CHOICES, EXCHANGED_KINDS, LEFT, RIGHT
from twobooks.refusals import NO_REFUSAL, NO_SIDE, ROW_NOT_WHOLE, TOO_MANY_CELLS


class Side:
    """A document that is edited, and the number that its next new cell gets."""

    def __init__(self, cells, next_number):
        # A list of its own, so that an edit here is seen nowhere else.
        self.cells = list(cells)
        self.next_number = next_number


class Books:
    """The cells of the base, the sides by their numbers, and the choices by their conflict's kind and number."""

    def __init__(self):
        self.base_cells = []
        self.sides = {LEFT: Side([], 1), RIGHT: Side([], 1)}
        self.choices = {}


def copy_of_base(books):
    return Side(books.base_cells, number_above(books.base_cells))


def texts_of_row(row):
    """The texts that a row holds, or None where the row isn't whole."""
    texts = []
    place = 0
    while place < len(row):
        begin = place + 1
        end = begin + row[place]
        if end < begin or end > len(row):
            return None
        texts.append(row[begin:end])
        place = end
    return texts


def set_base(books, row):
    texts = texts_of_row(row)
    if texts is None:
        return ROW_NOT_WHOLE
    refusal = refusal_of_texts(texts)
    if refusal != NO_REFUSAL:
        return refusal
    if len(texts) > MOST_CELLS:
        return TOO_MANY_CELLS
    books.base_cells = [Cell(number, 0, text) for number, text in enumerate(texts, start=1)]
    books.sides = {LEFT: copy_of_base(books), RIGHT: copy_of_base(books)}
    books.choices = {}
    return len(texts)


def copy_side(books, side):
    if side not in books.sides:
        return NO_SIDE
    other = books.sides[LEFT if side == RIGHT else RIGHT]
    books.sides[side] = Side(other.cells, other.next_number)
    return 0


def reset_side(books, side):
    if side not in books.sides:
        return NO_SIDE
    books.sides[side] = copy_of_base(books)
    return 0


def exchanged_choices(choices):
    exchanged = {}
    for conflict, choice in choices.items():
        exchanged[(EXCHANGED_KINDS[conflict[0]], conflict[1])] = EXCHANGED_CHOICES[choice]
    return exchanged


def swap_sides(books):
    books.sides = {LEFT: books.sides[RIGHT], RIGHT: books.sides[LEFT]}
    books.choices = exchanged_choices(books.choices)
    return 0
