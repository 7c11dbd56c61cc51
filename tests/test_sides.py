"""Point 4: copy, reset, swap."""

from tests.helper import GREAT, CallCase, base, copy, drop, hide, move, new, reset, swap, write

THREE = [(1, 0, [1]), (2, 0, [2]), (3, 0, [3])]
LEFT = [(3, 0, [3]), (5, 1, [8]), (1, 0, [9])]
RIGHT = [(1, 0, [1]), (2, 1, [2]), (3, 0, [3]), (4, 0, [6])]
APART = [
    (base([1], [2], [3]), 3), (drop(1, 2), 0), (move(1, 1, 3), 0), (write(1, 1, [9]), 0), (new(1, 0, [7]), 4),
    (new(1, 3, [8]), 5), (drop(1, 4), 0), (hide(1, 5, 1), 0), (hide(2, 2, 1), 0), (new(2, 3, [6]), 4)]
NO_SIDES = (0, 3, -1, -2, GREAT, -GREAT)


class Sides(CallCase):

    def test_apart(self):
        self.hold_all(APART, THREE, (LEFT, 6), (RIGHT, 5))


class Copy(CallCase):

    def test_side_becomes_the_other(self):
        self.hold_all(APART + [(copy(1), 0)], THREE, (RIGHT, 5), (RIGHT, 5))
        self.hold_all(APART + [(copy(2), 0)], THREE, (LEFT, 6), (LEFT, 6))

    def test_copy_of_an_equal_side_is_done(self):
        self.hold_all(APART + [(copy(1), 0), (copy(1), 0), (copy(2), 0)], THREE, (RIGHT, 5), (RIGHT, 5))

    def test_copies_are_edited_apart(self):
        steps = APART + [(copy(1), 0), (write(1, 2, [5]), 0), (hide(1, 3, 1), 0), (drop(1, 4), 0), (new(1, 0), 5)]
        left = [(5, 0, []), (1, 0, [1]), (2, 1, [5]), (3, 1, [3])]
        self.hold_all(steps, THREE, (left, 6), (RIGHT, 5))
        steps = APART + [(copy(1), 0), (move(2, 4, 0), 0), (new(2, 0), 5)]
        self.hold_all(steps, THREE, (RIGHT, 5), ([(5, 0, []), RIGHT[3]] + RIGHT[:3], 6))

    def test_at_the_beginning(self):
        self.hold_all([(copy(2), 0)], [], ([], 1), ([], 1))

    def test_no_side(self):
        for side in NO_SIDES:
            self.refused(APART, copy(side), -8, THREE, (LEFT, 6), (RIGHT, 5))


class Reset(CallCase):

    def test_side_becomes_the_base(self):
        self.hold_all(APART + [(reset(1), 0)], THREE, (THREE, 4), (RIGHT, 5))
        self.hold_all(APART + [(reset(2), 0)], THREE, (LEFT, 6), (THREE, 4))

    def test_reset_of_an_unchanged_side_is_done(self):
        self.hold_all(APART + [(reset(1), 0), (reset(1), 0)], THREE, (THREE, 4), (RIGHT, 5))

    def test_side_and_base_are_kept_apart_afterwards(self):
        steps = APART + [
            (reset(1), 0), (reset(2), 0), (write(1, 1, [5]), 0), (hide(1, 2, 1), 0), (drop(1, 3), 0), (new(1, 1), 4)]
        self.hold_all(steps, THREE, ([(1, 0, [5]), (4, 0, []), (2, 1, [2])], 5), (THREE, 4))

    def test_without_base_cells(self):
        steps = [(new(1, 0), 1), (new(1, 0), 2), (new(2, 0), 1), (reset(1), 0)]
        self.hold_all(steps, [], ([], 1), ([(1, 0, [])], 2))

    def test_no_side(self):
        for side in NO_SIDES:
            self.refused(APART, reset(side), -8, THREE, (LEFT, 6), (RIGHT, 5))


class Swap(CallCase):

    def test_sides_are_exchanged_with_their_next_numbers(self):
        self.hold_all(APART + [(swap(), 0)], THREE, (RIGHT, 5), (LEFT, 6))

    def test_twice(self):
        self.hold_all(APART + [(swap(), 0), (swap(), 0)], THREE, (LEFT, 6), (RIGHT, 5))

    def test_sides_are_edited_apart_afterwards(self):
        steps = APART + [(swap(), 0), (drop(1, 1), 0), (write(2, 1, [4]), 0), (new(1, 4), 5)]
        left = RIGHT[1:] + [(5, 0, [])]
        self.hold_all(steps, THREE, (left, 6), (LEFT[:2] + [(1, 0, [4])], 6))

    def test_with_copy_and_reset(self):
        self.hold_all(APART + [(swap(), 0), (copy(1), 0)], THREE, (LEFT, 6), (LEFT, 6))
        self.hold_all(APART + [(swap(), 0), (reset(2), 0)], THREE, (RIGHT, 5), (THREE, 4))

    def test_at_the_beginning(self):
        self.hold_all([(swap(), 0)], [], ([], 1), ([], 1))
