"""Point 7: changes."""

from tests.helper import (
    GREAT, CallCase, adopt, base, changes, copy, drop, hide, move, new, reset, swap, write)

BASE = (base(b"a", b"b", b"c", b"d"), 4)
NO_SIDES = (0, 3, -1, -2, GREAT, -GREAT)


class Changes(CallCase):

    def told_of(self, edits, answer):
        """The edits of either side are told so of it, and of the other side nothing."""
        for side in (1, 2):
            steps = [BASE] + [(edit[0](side, *edit[1:-1]), edit[-1]) for edit in edits]
            self.check(*steps, (changes(side), answer), (changes(3 - side), [0, 0]))

    def test_no_change(self):
        self.check((changes(1), [0, 0]), (changes(2), [0, 0]), BASE, (changes(1), [0, 0]), (changes(2), [0, 0]))

    def test_dropped(self):
        self.told_of([(drop, 2, 0)], [0, 1, 2, 1])

    def test_new(self):
        self.told_of([(new, 1, b"x", 5)], [0, 1, 5, 2])

    def test_new_with_a_mark_or_with_a_base_text_is_new_alone(self):
        self.told_of([(new, 1, b"a", 5), (hide, 5, 1, 0)], [0, 1, 5, 2])

    def test_text_differs(self):
        self.told_of([(write, 3, b"x", 0)], [0, 1, 3, 3])

    def test_mark_differs(self):
        self.told_of([(hide, 3, 1, 0)], [0, 1, 3, 4])

    def test_both_differ(self):
        self.told_of([(hide, 3, 1, 0), (write, 3, b"", 0)], [0, 1, 3, 5])

    def test_change_that_is_taken_back(self):
        self.told_of(
            [(hide, 3, 1, 0), (write, 3, b"", 0), (move, 3, 0, 0), (hide, 3, 0, 0), (write, 3, b"c", 0),
             (move, 3, 2, 0)], [0, 0])

    def test_another_order(self):
        self.told_of([(move, 1, 4, 0)], [1, 0])
        self.told_of([(move, 4, 2, 0)], [1, 0])

    def test_dropped_cells_make_no_other_order(self):
        self.told_of([(drop, 1, 0), (drop, 3, 0)], [0, 2, 1, 1, 3, 1])

    def test_order_of_the_cells_that_are_left(self):
        self.told_of([(move, 1, 4, 0), (drop, 1, 0)], [0, 1, 1, 1])
        self.told_of([(drop, 2, 0), (move, 1, 3, 0)], [1, 1, 2, 1])

    def test_new_cells_make_no_other_order(self):
        self.told_of([(new, 0, b"", 5), (new, 2, b"", 6), (move, 5, 4, 0)], [0, 2, 6, 2, 5, 2])

    def test_base_cells_in_the_base_order_then_new_ones_in_the_order_of_the_side(self):
        self.told_of(
            [(write, 2, b"x", 0), (hide, 1, 1, 0), (drop, 3, 0), (write, 4, b"", 0), (hide, 4, 1, 0), (move, 4, 0, 0),
             (new, 4, b"", 5), (new, 0, b"", 6), (new, 1, b"", 7)],
            [1, 7, 1, 4, 2, 3, 3, 1, 4, 5, 6, 2, 5, 2, 7, 2])

    def test_twenty_four_cells(self):
        steps = [(base(*[b""] * 12), 12)]
        steps += [(drop(2, number), 0) for number in range(1, 13)]
        steps += [(new(2, 0), number) for number in range(13, 25)]
        answer = [0, 24]
        for number in range(1, 13):
            answer += [number, 1]
        for number in range(24, 12, -1):
            answer += [number, 2]
        self.check(*steps, (changes(2), answer), (changes(1), [0, 0]))

    def test_order_of_the_base_after_adopt(self):
        self.check(
            BASE, (move(1, 4, 0), 0), (new(1, 1, b"n"), 5), (hide(1, 2, 1), 0), (adopt(), 5),
            (changes(1), [0, 0]), (changes(2), [0, 0]),
            (write(1, 1, b""), 0), (drop(1, 4), 0), (hide(1, 2, 0), 0), (hide(1, 6, 1), 0),
            (changes(1), [0, 4, 4, 1, 1, 3, 6, 4, 2, 4]), (move(1, 1, 6), 0),
            (changes(1), [1, 4, 4, 1, 1, 3, 6, 4, 2, 4]))

    def test_with_copy_swap_and_reset(self):
        self.check(
            BASE, (drop(1, 1), 0), (new(1, 2), 5), (copy(2), 0), (changes(2), [0, 2, 1, 1, 5, 2]),
            (write(2, 5, b"x"), 0), (drop(2, 2), 0), (swap(), 0), (changes(1), [0, 3, 1, 1, 2, 1, 5, 2]),
            (changes(2), [0, 2, 1, 1, 5, 2]), (reset(1), 0), (changes(1), [0, 0]))

    def test_no_side(self):
        steps = [BASE, (drop(1, 1), 0), (new(2, 2), 5)]
        for side in NO_SIDES:
            self.changes_nothing(steps, changes(side), -8)

    def test_telling_changes_nothing(self):
        self.changes_nothing([BASE, (drop(1, 1), 0), (new(1, 2), 5)], changes(1), [0, 2, 1, 1, 5, 2])
