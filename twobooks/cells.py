"""Texts, cells, and documents as rows of cells."""

from twobooks.refusals import NO_BYTE, NO_REFUSAL, TEXT_TOO_LONG

GREATEST_BYTE = 255
MOST_BYTES = 200
MOST_CELLS = 12
GREATEST_NUMBER = 99


class Cell:
    """A cell is never changed once it is made, so that documents may share it."""

    def __init__(self, number, mark, text):
        self.number = number
        self.mark = mark
        self.text = text


def only_bytes(text):
    return all([0 <= number <= GREATEST_BYTE for number in text])


def refusal_of_texts(texts):
    """The refusal that fits first; a wrong byte in any text comes ahead of the length of every text."""
    if not all([only_bytes(text) for text in texts]):
        return NO_BYTE
    if any([len(text) > MOST_BYTES for text in texts]):
        return TEXT_TOO_LONG
    return NO_REFUSAL


def place_of(cells, number):
    """Where the cell of this number stands, or None."""
    for place, cell in enumerate(cells):
        if cell.number == number:
            return place
    return None


def cell_of(cells, number):
    """The cell of this number, or None."""
    place = place_of(cells, number)
    if place is None:
        return None
    return cells[place]


def numbers_of(cells):
    return [cell.number for cell in cells]


def place_behind(cells, after):
    """The place right behind the cell after, the first place if after is 0, or None."""
    if after == 0:
        return 0
    place = place_of(cells, after)
    if place is None:
        return None
    return place + 1


def number_above(cells):
    """One above the greatest number of the cells, 1 without cells."""
    return max(numbers_of(cells), default=0) + 1
