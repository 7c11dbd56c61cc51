"""Point 13: adopt."""

from tests.helper import (
    EVERY_CONFLICT, CallCase, adopt, base, changes, choices, choose, conflicts, document, drop, flat, hide, merged,
    move, new, origins, reset, swap, told, write)

THREE = (base(b"1", b"2", b"3"), 3)


class Adopt(CallCase):

    def adopts(self, steps, cells, next_number):
        """Adopted, the base and both sides hold these cells, both next numbers are this, and there is no conflict."""
        steps = list(steps) + [(merged(), told(*cells)), (adopt(), len(cells))]
        self.hold_all_adopted(steps, cells, next_number)
        self.hold_all_adopted(steps + [(swap(), 0)], cells, next_number)

    def hold_all_adopted(self, steps, cells, next_number):
        self.check(
            *steps, (document(0), told(*cells)), (document(1), told(*cells)), (document(2), told(*cells)),
            (conflicts(), [0]), (changes(1), [0, 0]), (changes(2), [0, 0]), (merged(), told(*cells)),
            (origins(), flat(*[(cell[0],) * 3 for cell in cells])))
        for side in (1, 2):
            self.holds(steps, side, cells, next_number)

    def test_at_the_beginning(self):
        self.adopts([], [], 1)

    def test_unchanged(self):
        self.adopts([THREE], [(1, 0, b"1"), (2, 0, b"2"), (3, 0, b"3")], 4)

    def test_changes_of_both(self):
        steps = [THREE, (write(1, 1, b"x"), 0), (hide(2, 2, 1), 0), (move(2, 3, 0), 0), (new(1, 2, b"n"), 4)]
        self.adopts(steps, [(3, 0, b"3"), (1, 0, b"x"), (2, 1, b"2"), (5, 0, b"n")], 6)

    def test_conflicts_with_choices(self):
        self.adopts(EVERY_CONFLICT + choices(2, 3, 1, 2), [
            (6, 0, b"6"), (1, 0, b"R"), (2, 0, b"2"), (3, 0, b"l"), (4, 0, b"4"), (5, 0, b"5")], 7)

    def test_next_numbers_above_a_greater_number_of_a_side(self):
        """Cell 3 is dropped by the right, so the merged document's greatest is 2, but the left has 3."""
        self.adopts([THREE, (drop(2, 3), 0)], [(1, 0, b"1"), (2, 0, b"2")], 4)
        self.adopts([THREE, (drop(1, 3), 0)], [(1, 0, b"1"), (2, 0, b"2")], 4)

    def test_next_numbers_do_not_lean_on_the_base_or_on_the_next_numbers_before(self):
        self.adopts([THREE, (drop(1, 3), 0), (drop(2, 3), 0)], [(1, 0, b"1"), (2, 0, b"2")], 3)
        steps = [THREE, (new(1, 0), 4), (new(1, 0), 5), (drop(1, 4), 0), (drop(1, 5), 0)]
        self.adopts(steps, [(1, 0, b"1"), (2, 0, b"2"), (3, 0, b"3")], 4)
        self.adopts([THREE] + [(drop(side, number), 0) for side in (1, 2) for number in (1, 2, 3)], [], 1)

    def test_next_numbers_above_the_new_numbers(self):
        self.adopts([(new(1, 0, b"a"), 1), (new(2, 0, b"b"), 1)], [(2, 0, b"a"), (3, 0, b"b")], 4)

    def test_base_and_sides_are_kept_apart_afterwards(self):
        cells = [(1, 0, b"1"), (2, 0, b"2"), (3, 0, b"3"), (5, 0, b"n")]
        steps = [THREE, (new(1, 3, b"n"), 4), (adopt(), 4), (write(1, 5, b"x"), 0), (drop(1, 1), 0), (move(2, 5, 0), 0),
                 (hide(2, 2, 1), 0)]
        self.hold_all(steps, cells, ([(2, 0, b"2"), (3, 0, b"3"), (5, 0, b"x")], 6),
                      ([(5, 0, b"n"), (1, 0, b"1"), (2, 1, b"2"), (3, 0, b"3")], 6))

    def test_further_edits_conflicts_and_merges(self):
        """The cell that was new is a base cell now, with its new number."""
        self.check(
            THREE, (new(1, 1, b"n"), 4), (drop(2, 2), 0), (adopt(), 3),
            (document(0), told((1, 0, b"1"), (5, 0, b"n"), (3, 0, b"3"))), (write(1, 4, b"x"), -1),
            (write(1, 5, b"x"), 0), (write(2, 5, b"y"), 0), (conflicts(), flat((1, 5, 0))), (merged(), -11),
            (choose(1, 5, 2), 0), (merged(), told((1, 0, b"1"), (5, 0, b"y"), (3, 0, b"3"))),
            (new(2, 5, b"m"), 6), (conflicts(), flat((1, 5, 0))), (choose(1, 5, 1), 0),
            (origins(), flat((1, 1, 1), (5, 5, 5), (7, 0, 6), (3, 3, 3))), (adopt(), 4), (conflicts(), [0]),
            (document(0), told((1, 0, b"1"), (5, 0, b"x"), (7, 0, b"m"), (3, 0, b"3"))), (new(1, 0), 8), (new(2, 0), 8))

    def test_drop_conflict_of_an_adopted_cell(self):
        self.check(
            (new(2, 0, b"n"), 1), (hide(2, 1, 1), 0), (adopt(), 1), (drop(1, 2), 0), (conflicts(), [0]),
            (hide(2, 2, 0), 0), (conflicts(), flat((2, 2, 0))), (choose(2, 2, 3), 0), (merged(), told((2, 1, b"n"))),
            (adopt(), 1), (document(1), told((2, 1, b"n"))), (new(1, 2), 3))

    def test_reset_afterwards(self):
        """Reset counts from the base's greatest number, below the next number that adopt gave."""
        self.check(
            THREE, (drop(2, 3), 0), (adopt(), 2), (reset(1), 0), (new(1, 0), 3), (new(2, 0), 4), (reset(2), 0),
            (new(2, 0), 3))

    def test_twice(self):
        steps = [THREE, (new(1, 0, b"n"), 4), (adopt(), 4), (adopt(), 4)]
        cells = [(5, 0, b"n"), (1, 0, b"1"), (2, 0, b"2"), (3, 0, b"3")]
        self.hold_all_adopted(steps, cells, 6)

    def test_twelve_cells(self):
        steps = [(base(*[b"a"] * 12), 12), (write(1, 12, b"x"), 0), (hide(2, 12, 1), 0)]
        self.adopts(steps, [(number, 0, b"a") for number in range(1, 12)] + [(12, 1, b"x")], 13)

    def test_number_ninety_nine_leaves_no_number(self):
        steps = [(base(b"1"), 1)]
        for used in range(2, 98):
            steps += [(new(2, 1), used), (drop(2, used), 0)]
        steps += [(new(2, 1, b"n"), 98), (adopt(), 2)]
        self.check(*steps, (document(0), told((1, 0, b"1"), (99, 0, b"n"))), (new(1, 0), -16), (new(2, 0), -16),
                   (drop(1, 99), 0), (adopt(), 1), (new(1, 0), -16), (new(2, 0), -16), (reset(1), 0), (new(1, 0), 2))
