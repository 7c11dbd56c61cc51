"""Points 11 and 12: merged and origins, and with them loose cells and the numbers of new cells."""

from itertools import product

from tests.helper import (
    EVERY_CONFLICT, CallCase, adopt, base, choices, choose, conflicts, drop, flat, hide, merged, move, new, origins,
    swap, told, write)

THREE = (base(b"1", b"2", b"3"), 3)


class Merges(CallCase):

    def merges(self, steps, cells, sides):
        """The merged document has these cells; sides are their numbers on the left and on the right.

        Left and right exchanged, the cells are the same ones and the numbers of the sides are exchanged.
        """
        numbers = [cell[0] for cell in cells]
        there = [(number, left, right) for number, (left, right) in zip(numbers, sides, strict=True)]
        exchanged = [(number, right, left) for number, left, right in there]
        self.check(
            *steps, (merged(), told(*cells)), (origins(), flat(*there)),
            (swap(), 0), (merged(), told(*cells)), (origins(), flat(*exchanged)),
            (swap(), 0), (merged(), told(*cells)), (origins(), flat(*there)))


class WithoutLooseCells(Merges):

    def test_at_the_beginning(self):
        self.merges([], [], [])

    def test_unchanged(self):
        self.merges([THREE], [(1, 0, b"1"), (2, 0, b"2"), (3, 0, b"3")], [(1, 1), (2, 2), (3, 3)])

    def test_everything_dropped(self):
        self.merges([THREE, (drop(1, 1), 0), (drop(2, 2), 0), (drop(2, 3), 0)], [], [])

    def test_texts_marks_drops_and_order_together(self):
        steps = [
            THREE, (write(1, 1, b"x"), 0), (hide(2, 1, 1), 0), (drop(1, 2), 0), (move(2, 3, 0), 0)]
        self.merges(steps, [(3, 0, b"3"), (1, 1, b"x")], [(3, 3), (1, 1)])

    def test_telling_changes_nothing(self):
        steps = [THREE, (new(1, 0, b"n"), 4)]
        self.changes_nothing(steps, merged(), told((5, 0, b"n"), (1, 0, b"1"), (2, 0, b"2"), (3, 0, b"3")))
        self.changes_nothing(steps, origins(), flat((5, 4, 0), (1, 1, 1), (2, 2, 2), (3, 3, 3)))
        steps = EVERY_CONFLICT + choices(1, 1, 2, 3)
        cells = ((1, 0, b"L"), (4, 0, b"4"), (5, 0, b"5"), (6, 0, b"6"))
        self.changes_nothing(steps, merged(), told(*cells))
        self.changes_nothing(steps, origins(), flat(*[(cell[0],) * 3 for cell in cells]))

    def test_every_choice_of_every_conflict(self):
        texts = {1: b"L", 2: b"R", 3: b"1"}
        of_right = {1: [], 2: [(2, 0, b"r")], 3: [(2, 0, b"2")]}
        of_left = {1: [(3, 0, b"l")], 2: [], 3: [(3, 0, b"3")]}
        orders = {1: [1, 5, 6, 4], 2: [6, 1, 4, 5], 3: [1, 4, 5, 6]}
        for wanted in product((1, 2, 3), repeat=4):
            behind_one = sorted(of_right[wanted[1]] + of_left[wanted[2]], key=lambda cell: cell[2])
            cells = []
            for number in orders[wanted[3]]:
                cells.append((number, 0, texts[wanted[0]] if number == 1 else b"%d" % number))
                if number == 1:
                    cells += behind_one
            sides = [{2: (0, 2), 3: (3, 0)}.get(cell[0], (cell[0], cell[0])) for cell in cells]
            self.merges(EVERY_CONFLICT + choices(*wanted), cells, sides)


class NewCells(Merges):

    def test_in_front(self):
        self.merges(
            [THREE, (new(1, 0, b"n"), 4)], [(5, 0, b"n"), (1, 0, b"1"), (2, 0, b"2"), (3, 0, b"3")],
            [(4, 0), (1, 1), (2, 2), (3, 3)])

    def test_behind_each_common_cell(self):
        for after in (1, 2, 3):
            cells = [(1, 0, b"1"), (2, 0, b"2"), (3, 0, b"3")]
            sides = [(1, 1), (2, 2), (3, 3)]
            cells.insert(after, (5, 0, b"n"))
            sides.insert(after, (0, 4))
            self.merges([THREE, (new(2, after, b"n"), 4)], cells, sides)

    def test_without_base_cells(self):
        self.merges([(new(1, 0, b"x"), 1), (new(1, 1, b"y"), 2)], [(3, 0, b"x"), (4, 0, b"y")], [(1, 0), (2, 0)])

    def test_behind_a_common_cell_whose_place_is_another_one(self):
        """The right moves cell 1 to the end; the left's new cell behind cell 1 goes along."""
        steps = [THREE, (new(1, 1, b"n"), 4), (move(2, 1, 3), 0)]
        self.merges(
            steps, [(2, 0, b"2"), (3, 0, b"3"), (1, 0, b"1"), (5, 0, b"n")], [(2, 2), (3, 3), (1, 1), (4, 0)])

    def test_in_front_stays_in_front_when_another_cell_comes_first(self):
        steps = [THREE, (new(1, 0, b"n"), 4), (move(2, 3, 0), 0)]
        self.merges(
            steps, [(5, 0, b"n"), (3, 0, b"3"), (1, 0, b"1"), (2, 0, b"2")], [(4, 0), (3, 3), (1, 1), (2, 2)])

    def test_moved_by_the_side_itself(self):
        steps = [THREE, (new(1, 1, b"n"), 4), (move(1, 4, 3), 0), (move(1, 3, 0), 0)]
        self.merges(
            steps, [(3, 0, b"3"), (1, 0, b"1"), (2, 0, b"2"), (5, 0, b"n")], [(3, 3), (1, 1), (2, 2), (4, 0)])

    def test_behind_a_cell_that_is_no_common_one(self):
        """Cell 2 is dropped by the other side: the cell behind it is behind cell 1, then in front."""
        steps = [THREE, (new(1, 2, b"n"), 4), (drop(2, 2), 0)]
        self.merges(steps, [(1, 0, b"1"), (5, 0, b"n"), (3, 0, b"3")], [(1, 1), (4, 0), (3, 3)])
        steps += [(drop(2, 1), 0)]
        self.merges(steps, [(5, 0, b"n"), (3, 0, b"3")], [(4, 0), (3, 3)])

    def test_marks_go_along(self):
        self.merges(
            [(base(b"1"), 1), (new(1, 1, b"n"), 2), (hide(1, 2, 1), 0)], [(1, 0, b"1"), (3, 1, b"n")], [(1, 1), (2, 0)])


class NewCellsOfBoth(Merges):
    """One base cell, and behind it the new cells of both sides, which have the numbers 2 and above there."""

    def steps(self, left, right):
        steps = [(base(b"1"), 1)]
        for side, cells in ((1, left), (2, right)):
            for place, (text, mark) in enumerate(cells):
                steps.append((new(side, place + 1, text), place + 2))
                if mark == 1:
                    steps.append((hide(side, place + 2, 1), 0))
        return steps

    def stand(self, left, right, first):
        """Both lists stand, the left's first or the right's; else they stand once, as the left's."""
        above = 2 + max(len(left), len(right))
        of_left = [(text, mark, (place, 0)) for place, (text, mark) in enumerate(left, start=2)]
        of_right = [(text, mark, (0, place)) for place, (text, mark) in enumerate(right, start=2)]
        if first == 0:
            rows = [(text, mark, (place, place)) for place, (text, mark) in enumerate(left, start=2)]
        else:
            rows = of_left + of_right if first == 1 else of_right + of_left
        cells = [(number, mark, text) for number, (text, mark, sides) in enumerate(rows, start=above)]
        self.merges(self.steps(left, right), [(1, 0, b"1")] + cells, [(1, 1)] + [row[2] for row in rows])

    def test_equal(self):
        self.stand([(b"n", 0)], [(b"n", 0)], 0)
        self.stand([(b"", 0)], [(b"", 0)], 0)
        self.stand([(b"n", 1), (b"m", 0)], [(b"n", 1), (b"m", 0)], 0)

    def test_equal_with_unlike_numbers(self):
        steps = [
            (base(b"1"), 1), (new(1, 1, b"n"), 2), (new(2, 0), 2), (new(2, 0), 3), (drop(2, 2), 0), (drop(2, 3), 0),
            (new(2, 1, b"n"), 4)]
        self.merges(steps, [(1, 0, b"1"), (5, 0, b"n")], [(1, 1), (2, 4)])

    def test_equal_numbers_with_unlike_texts_are_two_cells(self):
        self.stand([(b"x", 0)], [(b"n", 0)], 2)

    def test_smaller_byte_first(self):
        self.stand([(b"a", 0)], [(b"b", 0)], 1)
        self.stand([(b"ab", 0)], [(b"aa", 0)], 2)
        self.stand([([0], 0)], [([255], 0)], 1)
        self.stand([([9], 0)], [([10], 0)], 1)
        self.stand([([100], 0)], [([20], 0)], 2)
        self.stand([([2, 2, 2], 0)], [([10], 0)], 1)

    def test_text_that_the_other_begins_with_first(self):
        self.stand([(b"ab", 0)], [(b"a", 0)], 2)
        self.stand([(b"", 0)], [([0], 0)], 1)

    def test_equal_in_text_but_not_in_mark(self):
        self.stand([(b"n", 1)], [(b"n", 0)], 2)
        self.stand([(b"n", 0)], [(b"n", 1)], 1)

    def test_text_comes_ahead_of_mark(self):
        self.stand([(b"a", 1)], [(b"b", 0)], 1)

    def test_list_that_the_other_begins_with_first(self):
        self.stand([(b"n", 0), (b"a", 0)], [(b"n", 0)], 2)
        self.stand([(b"n", 0)], [(b"n", 0), (b"n", 0)], 1)

    def test_first_unlike_cell_decides(self):
        self.stand([(b"n", 0), (b"z", 0)], [(b"n", 0), (b"b", 0), (b"c", 0)], 2)
        self.stand([(b"a", 0), (b"z", 0), (b"z", 0)], [(b"b", 0)], 1)
        self.stand([(b"n", 0), (b"m", 1)], [(b"n", 0), (b"m", 0)], 2)

    def test_same_cells_in_another_order_are_no_equal_lists(self):
        self.stand([(b"n", 0), (b"m", 0)], [(b"m", 0), (b"n", 0)], 2)

    def test_lists_stay_together(self):
        self.stand([(b"a", 0), (b"z", 0)], [(b"b", 0), (b"c", 0)], 1)

    def test_each_place_is_looked_at_by_itself(self):
        """In front the left's is the lesser one, behind cell 1 the right's, behind cell 2 both are equal."""
        steps = [
            (base(b"1", b"2"), 2), (new(1, 0, b"a"), 3), (new(1, 1, b"z"), 4), (new(1, 2, b"e"), 5),
            (new(2, 2, b"e"), 3), (new(2, 1, b"y"), 4), (new(2, 0, b"b"), 5)]
        self.merges(
            steps,
            [(6, 0, b"a"), (7, 0, b"b"), (1, 0, b"1"), (8, 0, b"y"), (9, 0, b"z"), (2, 0, b"2"), (10, 0, b"e")],
            [(3, 0), (0, 5), (1, 1), (0, 4), (4, 0), (2, 2), (5, 3)])

    def test_equal_cells_at_unlike_places_stand_twice(self):
        steps = [(base(b"1"), 1), (new(1, 0, b"n"), 2), (new(2, 1, b"n"), 2)]
        self.merges(steps, [(3, 0, b"n"), (1, 0, b"1"), (4, 0, b"n")], [(2, 0), (1, 1), (0, 2)])


class KeptBaseCells(Merges):

    def test_in_front_and_behind(self):
        """The left changed 1 and 3 and dropped none; the right dropped both."""
        steps = [
            THREE, (write(1, 1, b"x"), 0), (write(1, 3, b"y"), 0), (drop(2, 1), 0), (drop(2, 3), 0),
            (conflicts(), flat((3, 1, 0), (3, 3, 0))), (choose(3, 1, 1), 1), (choose(3, 3, 3), 0)]
        self.merges(steps, [(1, 0, b"x"), (2, 0, b"2"), (3, 0, b"3")], [(1, 0), (2, 2), (3, 0)])

    def test_place_is_that_of_the_side_with_the_choice_base_too(self):
        steps = [THREE, (write(2, 1, b"x"), 0), (move(2, 1, 3), 0), (drop(1, 1), 0), (choose(2, 1, 3), 0)]
        self.merges(steps, [(2, 0, b"2"), (3, 0, b"3"), (1, 0, b"1")], [(2, 2), (3, 3), (0, 1)])

    def test_behind_a_common_cell_whose_place_is_another_one(self):
        steps = [THREE, (write(1, 2, b"x"), 0), (drop(2, 2), 0), (move(2, 1, 3), 0), (choose(3, 2, 1), 0)]
        self.merges(steps, [(3, 0, b"3"), (1, 0, b"1"), (2, 0, b"x")], [(3, 3), (1, 1), (2, 0)])

    def test_among_new_cells_of_its_side(self):
        steps = [
            THREE, (new(1, 1, b"z"), 4), (new(1, 2, b"a"), 5), (hide(1, 2, 1), 0), (drop(2, 2), 0),
            (choose(3, 2, 1), 0)]
        self.merges(
            steps, [(1, 0, b"1"), (6, 0, b"z"), (2, 1, b"2"), (7, 0, b"a"), (3, 0, b"3")],
            [(1, 1), (4, 0), (2, 0), (5, 0), (3, 3)])

    def test_against_a_new_cell_of_the_same_text_and_mark(self):
        """The new cell counts as 0, so it's the lesser one, and both stand."""
        steps = [THREE, (write(1, 2, b"x"), 0), (drop(2, 2), 0), (new(2, 1, b"x"), 4), (choose(3, 2, 1), 0)]
        self.merges(
            steps, [(1, 0, b"1"), (5, 0, b"x"), (2, 0, b"x"), (3, 0, b"3")], [(1, 1), (0, 4), (2, 0), (3, 3)])

    def test_base_cell_of_number_one_against_a_new_cell_of_the_same_text_and_mark(self):
        """A new cell counts as 0, which no base cell's number is."""
        for side in (1, 2):
            steps = [THREE, (write(side, 1, b"x"), 0), (drop(3 - side, 1), 0), (new(3 - side, 0, b"x"), 4),
                     (choose(4 - side, 1, side), 0)]
            self.merges(
                steps, [(5, 0, b"x"), (1, 0, b"x"), (2, 0, b"2"), (3, 0, b"3")],
                [(0, 4) if side == 1 else (4, 0), (1, 0) if side == 1 else (0, 1), (2, 2), (3, 3)])

    def test_against_a_new_cell_with_the_choice_base(self):
        steps = [THREE, (write(1, 2, b"x"), 0), (drop(2, 2), 0), (new(2, 1, b"2"), 4), (choose(3, 2, 3), 0)]
        self.merges(
            steps, [(1, 0, b"1"), (5, 0, b"2"), (2, 0, b"2"), (3, 0, b"3")], [(1, 1), (0, 4), (2, 0), (3, 3)])

    def test_text_that_is_compared_is_the_chosen_one(self):
        """With left's text z the kept cell comes behind the new cell m, with the base's 2 ahead of it."""
        steps = [THREE, (write(1, 2, b"z"), 0), (drop(2, 2), 0), (new(2, 1, b"m"), 4)]
        self.merges(
            steps + [(choose(3, 2, 1), 0)], [(1, 0, b"1"), (5, 0, b"m"), (2, 0, b"z"), (3, 0, b"3")],
            [(1, 1), (0, 4), (2, 0), (3, 3)])
        self.merges(
            steps + [(choose(3, 2, 3), 0)], [(1, 0, b"1"), (2, 0, b"2"), (5, 0, b"m"), (3, 0, b"3")],
            [(1, 1), (2, 0), (0, 4), (3, 3)])

    def test_mark_that_is_compared_is_the_chosen_one(self):
        """With left's mark 1 the kept cell comes behind the new cell, with the base's 0 its number decides."""
        steps = [THREE, (hide(1, 2, 1), 0), (drop(2, 2), 0), (new(2, 1, b"2"), 4), (hide(2, 4, 1), 0)]
        self.merges(
            steps + [(choose(3, 2, 1), 0)], [(1, 0, b"1"), (5, 1, b"2"), (2, 1, b"2"), (3, 0, b"3")],
            [(1, 1), (0, 4), (2, 0), (3, 3)])
        self.merges(
            steps + [(choose(3, 2, 3), 0)], [(1, 0, b"1"), (2, 0, b"2"), (5, 1, b"2"), (3, 0, b"3")],
            [(1, 1), (2, 0), (0, 4), (3, 3)])

    def test_two_kept_base_cells_of_the_same_text_and_mark(self):
        """Their numbers decide, whichever side has the smaller one."""
        for side in (1, 2):
            other = 3 - side
            steps = [
                THREE, (write(side, 2, b"x"), 0), (drop(other, 2), 0), (write(other, 3, b"x"), 0), (drop(side, 3), 0),
                (choose(4 - side, 2, side), 1), (choose(4 - other, 3, other), 0)]
            self.merges(
                steps, [(1, 0, b"1"), (2, 0, b"x"), (3, 0, b"x")],
                [(1, 1), (2, 0) if side == 1 else (0, 2), (0, 3) if side == 1 else (3, 0)])

    def test_dropped_cell_is_no_common_one_to_be_behind(self):
        """The new cell behind the kept cell is behind cell 1 too, and in the list behind the kept one."""
        steps = [
            THREE, (write(1, 2, b"x"), 0), (new(1, 2, b"a"), 4), (drop(2, 2), 0), (new(2, 1, b"b"), 4),
            (choose(3, 2, 2), 0)]
        self.merges(
            steps, [(1, 0, b"1"), (5, 0, b"a"), (6, 0, b"b"), (3, 0, b"3")], [(1, 1), (4, 0), (0, 4), (3, 3)])


class Numbers(Merges):

    def test_above_the_greatest_number_of_base_and_sides(self):
        steps = [(base(b"1"), 1), (new(1, 1, b"a"), 2), (new(2, 1, b"b"), 2), (new(2, 2, b"c"), 3)]
        self.merges(
            steps, [(1, 0, b"1"), (4, 0, b"a"), (5, 0, b"b"), (6, 0, b"c")], [(1, 1), (2, 0), (0, 2), (0, 3)])

    def test_base_cells_that_no_side_has_leave_a_gap(self):
        steps = [THREE] + [(drop(side, number), 0) for side in (1, 2) for number in (2, 3)]
        self.merges(steps + [(new(2, 0, b"n"), 4)], [(5, 0, b"n"), (1, 0, b"1")], [(0, 4), (1, 1)])

    def test_numbers_of_dropped_new_cells_do_not_count(self):
        steps = [(base(b"1"), 1), (new(1, 0), 2), (new(1, 0), 3), (drop(1, 3), 0), (drop(1, 2), 0)]
        steps += [(new(2, 1, b"n"), 2)]
        self.merges(steps, [(1, 0, b"1"), (3, 0, b"n")], [(1, 1), (0, 2)])

    def test_in_the_order_in_which_they_stand(self):
        steps = [THREE, (new(1, 3, b"c"), 4), (new(1, 1, b"b"), 5), (new(1, 0, b"a"), 6), (move(2, 3, 0), 0)]
        self.merges(
            steps, [(7, 0, b"a"), (3, 0, b"3"), (8, 0, b"c"), (1, 0, b"1"), (9, 0, b"b"), (2, 0, b"2")],
            [(6, 0), (3, 3), (4, 0), (1, 1), (5, 0), (2, 2)])

    def with_number(self, number):
        """Steps to one base cell and, on the left behind it, a new cell of this number."""
        steps = [(base(b"1"), 1)]
        for used in range(2, number):
            steps += [(new(1, 1), used), (drop(1, used), 0)]
        return steps + [(new(1, 1, b"n"), number)]

    def test_number_ninety_nine(self):
        self.merges(self.with_number(98), [(1, 0, b"1"), (99, 0, b"n")], [(1, 1), (98, 0)])

    def test_number_a_hundred(self):
        steps = self.with_number(99)
        self.check(*steps, (conflicts(), [0]), (merged(), -12), (origins(), -12), (adopt(), -12))
        steps = self.with_number(98) + [(new(2, 1, b"m"), 2)]
        self.check(*steps, (merged(), -12), (origins(), -12), (adopt(), -12))

    def test_cell_of_number_ninety_nine_that_is_a_base_cell(self):
        steps = self.with_number(98) + [(adopt(), 2), (drop(1, 1), 0)]
        self.merges(steps, [(99, 0, b"n")], [(99, 99)])

    def test_equal_new_cells_take_one_number(self):
        steps = self.with_number(98) + [(new(2, 1, b"n"), 2)]
        self.merges(steps, [(1, 0, b"1"), (99, 0, b"n")], [(1, 1), (98, 2)])


class TooManyCells(Merges):

    def steps(self, right_count):
        """Six common cells, six new ones on the left, and so many on the right."""
        steps = [(base(*[b"a"] * 6), 6)]
        steps += [(new(1, 6, b"l"), number) for number in range(7, 13)]
        return steps + [(new(2, 0, b"r"), number) for number in range(7, 7 + right_count)]

    def test_twelve_cells(self):
        cells = [(number, 0, b"a") for number in range(1, 7)] + [(number, 0, b"l") for number in range(13, 19)]
        sides = [(number, number) for number in range(1, 7)] + [(number, 0) for number in range(12, 6, -1)]
        self.merges(self.steps(0), cells, sides)

    def test_twelve_cells_of_both_sides(self):
        steps = self.steps(1) + [(drop(1, 7), 0)]
        cells = [(13, 0, b"r")] + [(number, 0, b"a") for number in range(1, 7)]
        cells += [(number, 0, b"l") for number in range(14, 19)]
        sides = [(0, 7)] + [(number, number) for number in range(1, 7)]
        self.merges(steps, cells, sides + [(number, 0) for number in range(12, 7, -1)])

    def test_thirteen_cells(self):
        self.check(*self.steps(1), (conflicts(), [0]), (merged(), -12), (origins(), -12), (adopt(), -12))

    def test_twenty_four_cells(self):
        steps = [(new(side, 0, [side]), number) for side in (1, 2) for number in range(1, 13)]
        self.check(*steps, (merged(), -12), (origins(), -12), (adopt(), -12))

    def test_twelve_equal_new_cells_on_both(self):
        steps = [(new(side, 0), number) for side in (1, 2) for number in range(1, 13)]
        self.merges(
            steps, [(number, 0, b"") for number in range(13, 25)], [(number, number) for number in range(12, 0, -1)])

    def test_choice_decides_whether_it_is_too_great(self):
        steps = self.steps(0) + [(write(2, 6, b"x"), 0), (write(1, 5, b"y"), 0), (drop(2, 5), 0), (drop(1, 6), 0)]
        steps += [(new(1, 5, b"l"), 13), (conflicts(), flat((3, 5, 0), (2, 6, 0)))]
        self.check(*steps, (choose(3, 5, 1), 1), (choose(2, 6, 2), 0), (merged(), -12), (choose(2, 6, 1), 0),
                   (origins(), flat(*[(number, number, number) for number in range(1, 5)], (5, 5, 0), (14, 13, 0),
                                    *[(number, 27 - number, 0) for number in range(15, 21)])))

    def test_refusal_changes_nothing(self):
        steps = self.steps(1)
        steps = steps[:-1] + [(write(1, 1, b"x"), 0), (write(2, 1, b"y"), 0), steps[-1], (choose(1, 1, 2), 0)]
        for call in (merged(), origins(), adopt()):
            self.changes_nothing(steps, call, -12)


class Refusals(CallCase):

    def test_some_conflict_has_no_choice(self):
        for missing in range(4):
            chosen = [call for call, answer in choices(1, 2, 3, 1)]
            chosen.pop(missing)
            steps = EVERY_CONFLICT + [(call, 3 - place) for place, call in enumerate(chosen)]
            for call in (merged(), origins(), adopt()):
                self.changes_nothing(steps, call, -11)

    def test_no_choice_comes_ahead_of_too_great(self):
        steps = [(base(b"1"), 1), (write(1, 1, b"l"), 0), (write(2, 1, b"r"), 0)]
        steps += [(new(side, 0, [side]), number) for side in (1, 2) for number in range(2, 10)]
        for call in (merged(), origins(), adopt()):
            self.changes_nothing(steps, call, -11)
            self.changes_nothing(steps + [(choose(1, 1, 1), 0)], call, -12)
