"""Point 3: write, move, drop, hide."""

from itertools import permutations

from tests.helper import GREAT, CallCase, base, copy, drop, hide, move, new, reset, write

THREE = [(1, 0, [1]), (2, 0, [2]), (3, 0, [3])]
BASE = (base([1], [2], [3]), 3)
NO_SIDES = (0, 3, -1, -2, GREAT, -GREAT)
NO_CELLS = (0, 5, -1, 99, 100, GREAT, -GREAT)


class Edits(CallCase):

    def edits(self, edit, cells, next_number=4):
        """The edit of side 1 or 2 gives these cells there, and nothing else anywhere."""
        self.hold_all([BASE, (edit(1), 0)], THREE, (cells, next_number), (THREE, 4))
        self.hold_all([BASE, (edit(2), 0)], THREE, (THREE, 4), (cells, next_number))

    def refuse(self, call, answer):
        """Refused where the sides differ: 4 is a cell of the left alone, 2 of the right alone."""
        steps = [BASE, (new(1, 3, [4]), 4), (drop(1, 2), 0), (hide(2, 2, 1), 0)]
        left = [(1, 0, [1]), (3, 0, [3]), (4, 0, [4])]
        right = [(1, 0, [1]), (2, 1, [2]), (3, 0, [3])]
        self.refused(steps, call, answer, THREE, (left, 5), (right, 4))


class Write(Edits):

    def test_text_is_written(self):
        self.edits(lambda side: write(side, 2, [8, 9]), [(1, 0, [1]), (2, 0, [8, 9]), (3, 0, [3])])

    def test_empty_text_and_longest_text(self):
        for text in ([], [0] * 200, [255] * 200, [0, 1, 254, 255]):
            self.edits(lambda side: write(side, 3, text), THREE[:2] + [(3, 0, text)])

    def test_mark_and_place_stay(self):
        steps = [BASE, (hide(1, 2, 1), 0), (move(1, 2, 3), 0), (write(1, 2, [7]), 0)]
        self.hold_all(steps, THREE, ([(1, 0, [1]), (3, 0, [3]), (2, 1, [7])], 4), (THREE, 4))

    def test_new_cell_is_written(self):
        steps = [BASE, (new(2, 1, [7]), 4), (write(2, 4, [8]), 0)]
        self.hold_all(steps, THREE, (THREE, 4), ([THREE[0], (4, 0, [8])] + THREE[1:], 5))

    def test_no_side(self):
        for side in NO_SIDES:
            self.refuse(write(side, 1, [9]), -8)

    def test_no_cell(self):
        for number in NO_CELLS:
            self.refuse(write(1, number, [9]), -1)
        self.refuse(write(1, 2, [9]), -1)
        self.refuse(write(2, 4, [9]), -1)

    def test_no_byte(self):
        for number in (-1, 256, GREAT, -GREAT):
            self.refuse(write(1, 1, [number]), -4)
            self.refuse(write(2, 3, [5] * 199 + [number]), -4)

    def test_text_too_long(self):
        self.refuse(write(1, 1, [5] * 201), -5)
        self.refuse(write(2, 2, [5] * 400), -5)

    def test_same_text(self):
        self.refuse(write(1, 1, [1]), -7)
        self.refuse(write(2, 2, [2]), -7)
        self.check(BASE, (write(1, 1), 0), (write(1, 1), -7), (write(1, 1, [1]), 0), (write(1, 1, [1]), -7))
        self.check((base([1] * 200), 1), (write(2, 1, [1] * 200), -7), (write(2, 1, [1] * 199), 0),
                   (write(2, 1, [1] * 200), 0))

    def test_text_of_the_base_on_an_edited_side_is_a_change(self):
        self.check(BASE, (write(1, 1, [5]), 0), (write(1, 1, [1]), 0), (write(1, 1, [5]), 0), (write(2, 1, [1]), -7))

    def test_order_of_refusals(self):
        self.refuse(write(3, 77, [256] * 201), -8)
        self.refuse(write(0, 1, [1]), -8)
        self.refuse(write(1, 77, [256] * 201), -1)
        self.refuse(write(1, 77, [5] * 201), -1)
        self.refuse(write(1, 1, [256] * 201), -4)
        self.refuse(write(1, 1, [5] * 200 + [-1]), -4)


class Move(Edits):

    def test_every_move_of_three_cells(self):
        cell = dict(zip((1, 2, 3), THREE))
        for order in permutations((1, 2, 3)):
            arrange = [BASE] + self.steps_to(order)
            for number in (1, 2, 3):
                for after in (0, 1, 2, 3):
                    if after == number:
                        continue
                    others = [other for other in order if other != number]
                    place = others.index(after) + 1 if after else 0
                    moved = others[:place] + [number] + others[place:]
                    answer = -7 if moved == list(order) else 0
                    steps = arrange + [(move(1, number, after), answer)]
                    self.hold_all(steps, THREE, ([cell[one] for one in moved], 4), (THREE, 4))

    def steps_to(self, order):
        """Moves on the left: each cell is put first, the last of the order to begin with."""
        steps = []
        now = [1, 2, 3]
        for number in reversed(order):
            steps.append((move(1, number, 0), -7 if now[0] == number else 0))
            now = [number] + [other for other in now if other != number]
        return steps

    def test_forward_and_backward_on_both_sides(self):
        self.edits(lambda side: move(side, 1, 2), [THREE[1], THREE[0], THREE[2]])
        self.edits(lambda side: move(side, 1, 3), [THREE[1], THREE[2], THREE[0]])
        self.edits(lambda side: move(side, 3, 0), [THREE[2], THREE[0], THREE[1]])
        self.edits(lambda side: move(side, 3, 1), [THREE[0], THREE[2], THREE[1]])

    def test_text_and_mark_go_along(self):
        steps = [BASE, (hide(1, 1, 1), 0), (write(1, 1, [9]), 0), (move(1, 1, 3), 0)]
        self.hold_all(steps, THREE, ([(2, 0, [2]), (3, 0, [3]), (1, 1, [9])], 4), (THREE, 4))

    def test_new_cell_moves_and_is_moved_behind(self):
        steps = [BASE, (new(1, 0, [7]), 4), (move(1, 4, 3), 0), (move(1, 1, 4), 0)]
        self.hold_all(steps, THREE, ([(2, 0, [2]), (3, 0, [3]), (4, 0, [7]), (1, 0, [1])], 5), (THREE, 4))

    def test_among_twelve_cells(self):
        steps = [(base(*[[number] for number in range(1, 13)]), 12), (move(2, 12, 0), 0), (move(2, 1, 11), 0)]
        cells = [(number, 0, [number]) for number in range(1, 13)]
        self.hold_all(steps, cells, (cells, 13), ([cells[11]] + cells[1:11] + [cells[0]], 13))

    def test_no_side(self):
        for side in NO_SIDES:
            self.refuse(move(side, 1, 3), -8)

    def test_no_cell(self):
        for number in NO_CELLS:
            self.refuse(move(1, number, 1), -1)
        self.refuse(move(1, 2, 3), -1)
        self.refuse(move(2, 4, 1), -1)

    def test_after_is_no_other_cell_of_that_side(self):
        for after in (5, -1, 99, 100, GREAT, -GREAT):
            self.refuse(move(1, 1, after), -2)
        self.refuse(move(1, 1, 2), -2)
        self.refuse(move(2, 1, 4), -2)

    def test_behind_itself(self):
        for number in (1, 3, 4):
            self.refuse(move(1, number, number), -2)

    def test_order_stays(self):
        self.refuse(move(1, 1, 0), -7)
        self.refuse(move(1, 3, 1), -7)
        self.refuse(move(1, 4, 3), -7)
        self.refuse(move(2, 3, 2), -7)

    def test_only_cell(self):
        self.check((base([1]), 1), (move(1, 1, 0), -7), (move(1, 1, 1), -2))

    def test_order_of_refusals(self):
        self.refuse(move(3, 77, 78), -8)
        self.refuse(move(0, 1, 1), -8)
        self.refuse(move(3, 1, 0), -8)
        self.refuse(move(1, 77, 78), -1)
        self.refuse(move(1, 77, 77), -1)
        self.refuse(move(1, 0, 0), -1)


class Drop(Edits):

    def test_each_cell(self):
        for number in (1, 2, 3):
            self.edits(lambda side: drop(side, number), THREE[:number - 1] + THREE[number:])

    def test_new_cell(self):
        self.hold_all([BASE, (new(1, 2), 4), (drop(1, 4), 0)], THREE, (THREE, 5), (THREE, 4))

    def test_all_cells(self):
        steps = [BASE, (drop(2, 2), 0), (drop(2, 3), 0), (drop(2, 1), 0)]
        self.hold_all(steps, THREE, (THREE, 4), ([], 4))

    def test_no_side(self):
        for side in NO_SIDES:
            self.refuse(drop(side, 1), -8)
            self.refuse(drop(side, 77), -8)

    def test_no_cell(self):
        for number in NO_CELLS:
            self.refuse(drop(1, number), -1)
        self.refuse(drop(1, 2), -1)
        self.refuse(drop(2, 4), -1)

    def test_twice(self):
        self.check(BASE, (drop(1, 1), 0), (drop(1, 1), -1), (drop(2, 1), 0), (reset(1), 0), (drop(1, 1), 0))


class Hide(Edits):

    def test_hidden(self):
        self.edits(lambda side: hide(side, 2, 1), [(1, 0, [1]), (2, 1, [2]), (3, 0, [3])])

    def test_shown_again(self):
        steps = [BASE, (hide(1, 2, 1), 0), (hide(1, 2, 0), 0)]
        self.hold_all(steps, THREE, (THREE, 4), (THREE, 4))

    def test_new_cell(self):
        steps = [BASE, (new(2, 3, [7]), 4), (hide(2, 4, 1), 0), (copy(1), 0)]
        cells = THREE + [(4, 1, [7])]
        self.hold_all(steps, THREE, (cells, 5), (cells, 5))

    def test_text_and_place_stay(self):
        steps = [BASE, (write(1, 1, [9]), 0), (move(1, 1, 2), 0), (hide(1, 1, 1), 0)]
        self.hold_all(steps, THREE, ([(2, 0, [2]), (1, 1, [9]), (3, 0, [3])], 4), (THREE, 4))

    def test_no_side(self):
        for side in NO_SIDES:
            self.refuse(hide(side, 1, 1), -8)

    def test_no_cell(self):
        for number in NO_CELLS:
            self.refuse(hide(1, number, 1), -1)
        self.refuse(hide(1, 2, 1), -1)
        self.refuse(hide(2, 4, 1), -1)

    def test_no_mark(self):
        for mark in (-1, 2, 3, GREAT, -GREAT):
            self.refuse(hide(1, 1, mark), -18)
            self.refuse(hide(2, 2, mark), -18)

    def test_same_mark(self):
        self.refuse(hide(1, 1, 0), -7)
        self.refuse(hide(2, 2, 1), -7)

    def test_order_of_refusals(self):
        self.refuse(hide(3, 77, 2), -8)
        self.refuse(hide(0, 1, 0), -8)
        self.refuse(hide(1, 77, 2), -1)
        self.refuse(hide(1, 77, 0), -1)
