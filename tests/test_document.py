"""Point 6: document."""

from tests.helper import (
    GREAT, CallCase, adopt, base, conflicts, document, drop, hide, move, new, swap, told, write)

APART = [
    (base(b"a", b"b\n", b""), 3), (write(1, 1, b"xy"), 0), (hide(1, 2, 1), 0), (move(1, 3, 0), 0), (new(1, 3), 4),
    (drop(2, 2), 0), (new(2, 1, [0, 255, 10]), 4)]
BASE_CELLS = ((1, 0, b"a"), (2, 0, b"b\n"), (3, 0, b""))
LEFT_CELLS = ((3, 0, b""), (4, 0, b""), (1, 0, b"xy"), (2, 1, b"b\n"))
RIGHT_CELLS = ((1, 0, b"a"), (4, 0, [0, 255, 10]), (3, 0, b""))


class Document(CallCase):

    def test_at_the_beginning(self):
        self.check((document(0), [0]), (document(1), [0]), (document(2), [0]))

    def test_base_and_both_sides(self):
        self.check(
            *APART, (document(0), told(*BASE_CELLS)), (document(1), told(*LEFT_CELLS)),
            (document(2), told(*RIGHT_CELLS)))

    def test_number_by_number(self):
        self.check((base([65], []), 2), (hide(2, 1, 1), 0), (document(2), [2, 1, 1, 1, 65, 2, 0, 0]))

    def test_after_swap(self):
        self.check(
            *APART, (swap(), 0), (document(0), told(*BASE_CELLS)), (document(1), told(*RIGHT_CELLS)),
            (document(2), told(*LEFT_CELLS)))

    def test_twelve_cells_of_two_hundred_bytes(self):
        texts = [bytes([number]) * 200 for number in range(12)]
        cells = [(number + 1, 0, text) for number, text in enumerate(texts)]
        self.assertEqual(len(told(*cells)), 2437)
        self.check((base(*texts), 12), (document(0), told(*cells)), (document(2), told(*cells)))

    def test_telling_changes_nothing(self):
        for which, cells in enumerate((BASE_CELLS, LEFT_CELLS, RIGHT_CELLS)):
            self.changes_nothing(APART, document(which), told(*cells))

    def test_base_with_marks_after_adopt(self):
        self.check(
            (base(b"a", b"b"), 2), (hide(1, 2, 1), 0), (adopt(), 2), (document(0), told((1, 0, b"a"), (2, 1, b"b"))),
            (conflicts(), [0]))

    def test_no_document(self):
        for which in (-1, 3, 4, -2, GREAT, -GREAT):
            self.check((document(which), -19))
            self.changes_nothing(APART, document(which), -19)
