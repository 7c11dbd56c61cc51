"""Point 1: base."""

from tests.helper import GREAT, CallCase, base, base_row, copy, drop, hide, move, new, reset, swap, write

TWO = [(1, 0, [65]), (2, 0, [66, 10])]


class BaseIsSet(CallCase):

    def test_texts_become_cells_of_base_and_sides(self):
        self.hold_all([(base([65], [66, 10]), 2)], TWO, (TWO, 3), (TWO, 3))

    def test_beginning_has_no_cells_and_next_numbers_one(self):
        self.hold_all([], [], ([], 1), ([], 1))

    def test_empty_row(self):
        self.hold_all([(base(), 0)], [], ([], 1), ([], 1))

    def test_empty_texts(self):
        cells = [(1, 0, []), (2, 0, [7]), (3, 0, [])]
        self.hold_all([(base([], [7], []), 3)], cells, (cells, 4), (cells, 4))

    def test_one_empty_text(self):
        cells = [(1, 0, [])]
        self.hold_all([(base_row([0]), 1)], cells, (cells, 2), (cells, 2))

    def test_equal_texts_are_cells_of_their_own(self):
        cells = [(1, 0, [5]), (2, 0, [5])]
        self.hold_all([(base([5], [5]), 2)], cells, (cells, 3), (cells, 3))

    def test_twelve_texts(self):
        cells = [(number, 0, [number]) for number in range(1, 13)]
        self.hold_all([(base(*[[number] for number in range(1, 13)]), 12)], cells, (cells, 13), (cells, 13))

    def test_twelve_texts_of_two_hundred_bytes(self):
        texts = [[number] * 200 for number in range(12)]
        cells = [(number + 1, 0, texts[number]) for number in range(12)]
        self.hold_all([(base(*texts), 12)], cells, (cells, 13), (cells, 13))

    def test_all_bytes(self):
        texts = [list(range(0, 200)), list(range(200, 256)), [0], [1], [254], [255]]
        cells = [(place + 1, 0, text) for place, text in enumerate(texts)]
        self.hold_all([(base(*texts), 6)], cells, (cells, 7), (cells, 7))

    def test_second_base_takes_the_place_of_everything(self):
        steps = [
            (base([65], [66, 10], [67]), 3), (new(1, 1, [9]), 4), (drop(2, 3), 0), (hide(2, 1, 1), 0),
            (move(1, 3, 0), 0), (write(1, 2, [1]), 0), (new(2, 0), 4), (new(2, 0), 5),
            (base([65], [66, 10]), 2)]
        self.hold_all(steps, TWO, (TWO, 3), (TWO, 3))

    def test_second_base_without_cells(self):
        self.hold_all([(base([1], [2]), 2), (new(1, 0), 3), (base(), 0)], [], ([], 1), ([], 1))

    def test_sides_are_copies_of_their_own(self):
        steps = [(base([65], [66, 10]), 2), (write(1, 1, [1]), 0), (hide(1, 2, 1), 0), (move(1, 2, 0), 0)]
        self.hold_all(steps, TWO, ([(2, 1, [66, 10]), (1, 0, [1])], 3), (TWO, 3))
        steps = [(base([65], [66, 10]), 2), (drop(2, 1), 0), (new(2, 2, [3]), 3)]
        self.hold_all(steps, TWO, (TWO, 3), ([(2, 0, [66, 10]), (3, 0, [3])], 4))

    def test_base_cells_keep_their_numbers_on_each_side_that_has_them(self):
        steps = [
            (base([1], [2], [3]), 3), (drop(1, 2), 0), (move(1, 3, 0), 0), (new(1, 3, [8]), 4),
            (copy(2), 0), (swap(), 0), (drop(1, 3), 0)]
        base_cells = [(1, 0, [1]), (2, 0, [2]), (3, 0, [3])]
        left = [(4, 0, [8]), (1, 0, [1])]
        right = [(3, 0, [3]), (4, 0, [8]), (1, 0, [1])]
        self.hold_all(steps, base_cells, (left, 5), (right, 5))
        self.check(*steps, (reset(1), 0), (drop(1, 2), 0))


class BaseIsRefused(CallCase):

    def refuse(self, row, answer):
        """Refused as the first call and as a later one, with nothing changed."""
        self.refused([], base_row(row), answer, [], ([], 1), ([], 1))
        steps = [(base([65], [66, 10]), 2), (write(1, 1, [1]), 0), (new(2, 0, [4]), 3)]
        left = [(1, 0, [1]), (2, 0, [66, 10])]
        self.refused(steps, base_row(row), answer, TWO, (left, 3), ([(3, 0, [4])] + TWO, 4))

    def test_count_below_zero(self):
        for row in ([-1], [-1, 5], [0, -1], [1, 7, -2, 1, 1], [-GREAT], [2, 1, 1, -GREAT, 3]):
            self.refuse(row, -15)

    def test_fewer_numbers_than_the_count_says(self):
        for row in ([1], [2, 5], [1, 5, 1], [0, 0, 3, 1, 1], [GREAT], [GREAT, 1, 2], [1, 1, GREAT]):
            self.refuse(row, -15)

    def test_count_of_just_what_is_there_is_whole(self):
        self.check((base_row([2, 5]), -15), (base_row([2, 5, 6]), 1), (base_row([2, 5, 6, 1]), -15))

    def test_no_byte(self):
        for number in (-1, 256, -GREAT, GREAT):
            self.refuse([1, number], -4)
            self.refuse([1, 5, 3, 1, number, 2, 0], -4)

    def test_counts_need_not_be_bytes(self):
        self.refuse([256] + [0] * 256, -5)
        self.refuse([3999] + [0] * 3999, -5)

    def test_text_of_two_hundred_and_one_bytes(self):
        self.refuse([201] + [255] * 201, -5)
        self.refuse([1, 1, 201] + [0] * 201 + [0], -5)
        self.check((base([1] * 200), 1), (base([1] * 201), -5))

    def test_more_than_twelve_texts(self):
        self.refuse([0] * 13, -6)
        self.refuse([1, 9] * 13, -6)
        self.refuse([0] * 4000, -6)
        self.check((base_row([0] * 12), 12), (base_row([0] * 13), -6))

    def test_not_whole_comes_first(self):
        self.refuse([1, 256, 2, 1], -15)
        self.refuse([201] + [0] * 201 + [1], -15)
        self.refuse([0] * 13 + [-1], -15)
        self.refuse([1, -1] + [0] * 13 + [201] + [0] * 201 + [5], -15)

    def test_no_byte_comes_ahead_of_length_and_of_too_many(self):
        self.refuse([201] + [256] * 201, -4)
        self.refuse([201] + [0] * 201 + [1, 256], -4)
        self.refuse([0] * 13 + [1, -1], -4)
        self.refuse([201] + [0] * 201 + [0] * 13 + [1, -1], -4)

    def test_length_comes_ahead_of_too_many(self):
        self.refuse([0] * 12 + [201] + [0] * 201, -5)
        self.refuse([201] + [0] * 201 + [0] * 13, -5)
