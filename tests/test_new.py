"""Point 2: new."""

from tests.helper import GREAT, CallCase, base, copy, drop, hide, new, reset, write

THREE = [(1, 0, [1]), (2, 0, [2]), (3, 0, [3])]
BASE = (base([1], [2], [3]), 3)
NO_SIDES = (0, 3, -1, -2, GREAT, -GREAT)


def used_up(side, cells):
    """Steps from the beginning to a side of so many cells, with the next number 100."""
    steps = [(base(*[[]] * 12), 12)]
    for number in range(13, 100):
        steps.append((drop(side, number - 12), 0))
        steps.append((new(side, number - 1), number))
    for number in range(88, 100 - cells):
        steps.append((drop(side, number), 0))
    return steps


class NewCells(CallCase):

    def test_first(self):
        cells = [(4, 0, [7, 8])] + THREE
        self.hold_all([BASE, (new(1, 0, [7, 8]), 4)], THREE, (cells, 5), (THREE, 4))
        self.hold_all([BASE, (new(2, 0, [7, 8]), 4)], THREE, (THREE, 4), (cells, 5))

    def test_right_behind_each_cell(self):
        for after in (1, 2, 3):
            cells = THREE[:after] + [(4, 0, [7])] + THREE[after:]
            self.hold_all([BASE, (new(1, after, [7]), 4)], THREE, (cells, 5), (THREE, 4))
            self.hold_all([BASE, (new(2, after, [7]), 4)], THREE, (THREE, 4), (cells, 5))

    def test_on_a_side_without_cells(self):
        self.hold_all([(new(1, 0, [7]), 1)], [], ([(1, 0, [7])], 2), ([], 1))

    def test_behind_a_new_cell(self):
        cells = [(1, 0, [1]), (4, 0, []), (5, 0, [9]), (2, 0, [2]), (3, 0, [3])]
        self.hold_all([BASE, (new(2, 1), 4), (new(2, 4, [9]), 5)], THREE, (THREE, 4), (cells, 6))

    def test_each_side_counts_its_own_numbers(self):
        steps = [BASE, (new(1, 0), 4), (new(1, 0), 5), (new(2, 3), 4)]
        left = [(5, 0, []), (4, 0, [])] + THREE
        self.hold_all(steps, THREE, (left, 6), (THREE + [(4, 0, [])], 5))

    def test_numbers_of_dropped_cells_stay_used(self):
        self.check(BASE, (new(1, 0), 4), (drop(1, 4), 0), (new(1, 0), 5), (drop(1, 3), 0), (new(1, 0), 6))

    def test_mark_is_zero_behind_a_hidden_cell(self):
        cells = [(1, 1, [1]), (4, 0, [1]), (2, 0, [2]), (3, 0, [3])]
        self.hold_all([BASE, (hide(1, 1, 1), 0), (new(1, 1, [1]), 4)], THREE, (cells, 5), (THREE, 4))

    def test_text_of_two_hundred_bytes_and_the_edges_of_bytes(self):
        for text in ([0] * 200, [255] * 200, [0, 1, 254, 255, 10], []):
            self.hold_all([(new(1, 0, text), 1)], [], ([(1, 0, text)], 2), ([], 1))

    def test_twelve_cells_and_a_thirteenth(self):
        steps = [(new(2, number - 1), number) for number in range(1, 13)]
        cells = [(number, 0, []) for number in range(1, 13)]
        self.hold_all(steps, [], ([], 1), (cells, 13))
        self.refused(steps, new(2, 12), -6, [], ([], 1), (cells, 13))
        self.check(*steps, (new(2, 12), -6), (new(1, 0), 1), (drop(2, 5), 0), (new(2, 12), 13), (new(2, 12), -6))

    def test_next_number_ninety_nine_and_a_hundred(self):
        steps = used_up(1, 12)
        self.assertEqual(steps[-1], (new(1, 98), 99))
        steps = used_up(1, 11)
        cells = [(number, 0, []) for number in range(89, 100)]
        base_cells = [(number, 0, []) for number in range(1, 13)]
        self.holds(steps, 1, cells, 100)
        self.refused(steps, new(1, 0), -16, base_cells, (cells, 100), (base_cells, 13))
        self.check(*used_up(2, 0), (new(2, 0), -16), (new(1, 0), -6), (drop(1, 1), 0), (new(1, 0), 13))

    def test_used_up_numbers_go_along_with_copy_and_are_free_again_after_reset(self):
        self.check(*used_up(2, 3), (copy(1), 0), (new(1, 99), -16), (drop(1, 98), 0),
                   (reset(2), 0), (new(2, 0), -6), (drop(2, 12), 0), (new(2, 0), 13), (new(1, 0), -16))


class NewIsRefused(CallCase):

    def refuse(self, side, after, text, answer):
        steps = [BASE, (new(1, 3, [4]), 4), (write(2, 2, [9]), 0)]
        right = [(1, 0, [1]), (2, 0, [9]), (3, 0, [3])]
        self.refused(steps, new(side, after, text), answer, THREE, (THREE + [(4, 0, [4])], 5), (right, 4))

    def test_no_side(self):
        for side in NO_SIDES:
            self.refuse(side, 0, [], -8)

    def test_after_is_no_cell_of_that_side(self):
        for after in (5, -1, 99, 100, GREAT, -GREAT):
            self.refuse(1, after, [], -2)
        self.refuse(2, 4, [], -2)

    def test_after_is_a_dropped_cell(self):
        self.check(BASE, (drop(1, 2), 0), (new(1, 2), -2), (new(2, 2), 4))

    def test_no_byte(self):
        for number in (-1, 256, GREAT, -GREAT):
            self.refuse(1, 0, [number], -4)
            self.refuse(2, 3, [5] * 199 + [number], -4)

    def test_text_too_long(self):
        self.refuse(1, 0, [5] * 201, -5)
        self.refuse(2, 2, [5] * 400, -5)

    def test_no_side_comes_first(self):
        for side in NO_SIDES:
            self.refuse(side, 77, [], -8)
            self.refuse(side, 0, [256], -8)
            self.refuse(side, 77, [256] * 201, -8)

    def test_after_comes_ahead_of_the_text(self):
        self.refuse(1, 77, [256], -2)
        self.refuse(1, 77, [0] * 201, -2)

    def test_no_byte_comes_ahead_of_length(self):
        self.refuse(1, 1, [0] * 200 + [256], -4)
        self.refuse(1, 1, [-1] + [0] * 399, -4)

    def test_order_with_twelve_cells_and_used_up_numbers(self):
        # Twelve cells and the next number 100: both of the last refusals fit.
        full = used_up(1, 12)
        self.check(
            *full, (new(0, 7, [256] * 201), -8), (new(1, 7, [256] * 201), -2), (new(1, 99, [256] * 201), -4),
            (new(1, 99, [5] * 201), -5), (new(1, 99), -6), (new(1, 0), -6), (drop(1, 99), 0), (new(1, 99), -2),
            (new(1, 98, [256]), -4), (new(1, 98, [5] * 201), -5), (new(1, 98), -16), (new(3, 98), -8))
