"""Points 9 and 10: conflicts and choose, and with them dropped cells and the order conflict."""

from itertools import product

from tests.helper import (
    EVERY_CONFLICT, GREAT, CallCase, adopt, base, choices, choose, conflicts, drop, flat, hide, merged, move, new,
    told, write)


class Conflicts(CallCase):

    def test_none(self):
        self.check((conflicts(), [0]), (base(b"a", b"b"), 2), (conflicts(), [0]), (write(1, 1, b"x"), 0),
                   (write(2, 2, b"y"), 0), (move(1, 2, 0), 0), (new(2, 0), 3), (conflicts(), [0]))

    def test_each_kind(self):
        self.check(*EVERY_CONFLICT, (conflicts(), flat((1, 1, 0), (2, 2, 0), (3, 3, 0), (4, 0, 0))))

    def test_cells_in_the_order_of_the_base_then_the_order_conflict(self):
        """The order of the base isn't that of the numbers, and kinds don't matter for it."""
        self.check(
            (base(b"1", b"2", b"3", b"4"), 4), (move(1, 1, 4), 0), (move(1, 2, 4), 0), (adopt(), 4),
            (write(1, 1, b"L"), 0), (write(2, 1, b"R"), 0), (drop(1, 4), 0), (write(2, 4, b"x"), 0),
            (write(1, 2, b"L"), 0), (write(2, 2, b"R"), 0), (drop(2, 3), 0), (hide(1, 3, 1), 0),
            (conflicts(), flat((3, 3, 0), (2, 4, 0), (1, 2, 0), (1, 1, 0))))
        self.check(
            (base(b"1", b"2", b"3"), 3), (move(1, 3, 0), 0), (move(2, 1, 3), 0), (move(2, 2, 3), 0),
            (write(1, 3, b"x"), 0), (write(2, 3, b"y"), 0), (conflicts(), flat((1, 3, 0), (4, 0, 0))))

    def test_thirteen_conflicts(self):
        steps = [(base(*[b"a"] * 12), 12)]
        for number in range(1, 13):
            steps += [(write(1, number, b"l"), 0), (write(2, number, b"r"), 0)]
        steps += [(move(1, 1, 12), 0), (move(2, 12, 0), 0), (move(2, 11, 0), 0)]
        wanted = [(1, number, 0) for number in range(1, 13)] + [(4, 0, 0)]
        self.check(*steps, (conflicts(), flat(*wanted)), (choose(1, 12, 3), 12), (choose(4, 0, 3), 11))

    def test_telling_changes_nothing(self):
        self.changes_nothing(EVERY_CONFLICT + choices(1, 2, 3, 1), conflicts(),
                             flat((1, 1, 1), (2, 2, 2), (3, 3, 3), (4, 0, 1)))


class DroppedCells(CallCase):
    """Cell 2 of three is dropped on one side; kind 2 is a drop of the left, kind 3 a drop of the right."""

    def steps(self, dropping, *edits):
        other = 3 - dropping
        return [(base(b"1", b"2", b"3"), 3), (drop(dropping, 2), 0)] + [
            (edit[0](other, 2, edit[1]), 0) for edit in edits]

    def test_unchanged_on_the_other_side(self):
        for dropping in (1, 2):
            self.check(
                *self.steps(dropping), (conflicts(), [0]), (merged(), told((1, 0, b"1"), (3, 0, b"3"))))

    def test_changed_and_changed_back(self):
        for dropping in (1, 2):
            self.check(*self.steps(dropping, (write, b"x"), (hide, 1), (write, b"2"), (hide, 0)), (conflicts(), [0]))

    def test_moved_alone(self):
        for dropping in (1, 2):
            self.check(
                *self.steps(dropping), (move(3 - dropping, 2, 0), 0), (conflicts(), [0]),
                (merged(), told((1, 0, b"1"), (3, 0, b"3"))))

    def test_dropped_on_both(self):
        for dropping in (1, 2):
            self.check(
                *self.steps(dropping, (write, b"x")), (drop(3 - dropping, 2), 0), (conflicts(), [0]),
                (merged(), told((1, 0, b"1"), (3, 0, b"3"))))

    def each_choice(self, edits, cell):
        for dropping in (1, 2):
            kind = dropping + 1
            without = told((1, 0, b"1"), (3, 0, b"3"))
            self.check(
                *self.steps(dropping, *edits), (conflicts(), [1, kind, 2, 0]), (merged(), -11),
                (choose(5 - kind, 2, 1), -9), (choose(1, 2, 1), -9),
                (choose(kind, 2, dropping), 0), (conflicts(), [1, kind, 2, dropping]), (merged(), without),
                (choose(kind, 2, 3 - dropping), 0), (merged(), told((1, 0, b"1"), cell, (3, 0, b"3"))),
                (choose(kind, 2, 3), 0), (merged(), told((1, 0, b"1"), (2, 0, b"2"), (3, 0, b"3"))),
                (choose(kind, 2, 0), 1), (conflicts(), [1, kind, 2, 0]), (merged(), -11))

    def test_changed_in_text(self):
        self.each_choice([(write, b"x")], (2, 0, b"x"))

    def test_changed_in_mark_alone(self):
        self.each_choice([(hide, 1)], (2, 1, b"2"))

    def test_changed_in_both(self):
        self.each_choice([(write, b""), (hide, 1)], (2, 1, b""))

    def test_base_mark_comes_back_with_the_choice_base(self):
        self.check(
            (base(b"1", b"2"), 2), (hide(1, 2, 1), 0), (adopt(), 2), (drop(1, 2), 0), (conflicts(), [0]),
            (hide(2, 2, 0), 0), (conflicts(), [1, 2, 2, 0]), (choose(2, 2, 3), 0),
            (merged(), told((1, 0, b"1"), (2, 1, b"2"))), (choose(2, 2, 2), 0),
            (merged(), told((1, 0, b"1"), (2, 0, b"2"))))


class Order(CallCase):

    def arranged(self, side, order):
        """Moves on a side whose cells stand as in the base to this order."""
        now = [1, 2, 3, 4]
        steps = []
        for number in reversed(order):
            steps.append((move(side, number, 0), -7 if now[0] == number else 0))
            now = [number] + [other for other in now if other != number]
        return steps

    def steps(self, left, right):
        return [(base(b"1", b"2", b"3", b"4"), 4)] + self.arranged(1, left) + self.arranged(2, right)

    def cells(self, order):
        return told(*[(number, 0, b"%d" % number) for number in order])

    def merges(self, left, right, order):
        self.check(*self.steps(left, right), (conflicts(), [0]), (merged(), self.cells(order)))

    def test_left_in_the_order_of_the_base(self):
        self.merges([1, 2, 3, 4], [4, 3, 1, 2], [4, 3, 1, 2])

    def test_right_in_the_order_of_the_base(self):
        self.merges([2, 1, 4, 3], [1, 2, 3, 4], [2, 1, 4, 3])

    def test_both_in_the_order_of_the_base(self):
        self.merges([1, 2, 3, 4], [1, 2, 3, 4], [1, 2, 3, 4])

    def test_both_in_the_same_order(self):
        self.merges([3, 1, 4, 2], [3, 1, 4, 2], [3, 1, 4, 2])

    def test_conflict_and_each_choice(self):
        self.check(
            *self.steps([2, 1, 3, 4], [1, 2, 4, 3]), (conflicts(), [1, 4, 0, 0]), (merged(), -11),
            (choose(4, 0, 1), 0), (conflicts(), [1, 4, 0, 1]), (merged(), self.cells([2, 1, 3, 4])),
            (choose(4, 0, 2), 0), (merged(), self.cells([1, 2, 4, 3])),
            (choose(4, 0, 3), 0), (merged(), self.cells([1, 2, 3, 4])),
            (choose(4, 0, 0), 1), (conflicts(), [1, 4, 0, 0]), (merged(), -11))

    def test_order_of_the_common_cells_alone_counts(self):
        """Without the cell that one side dropped, the other cells stand as in the base."""
        self.check(
            *self.steps([4, 1, 2, 3], [2, 1, 3, 4]), (conflicts(), [1, 4, 0, 0]), (drop(2, 4), 0), (conflicts(), [0]),
            (merged(), self.cells([2, 1, 3])))
        self.check(
            *self.steps([4, 1, 2, 3], [2, 1, 3, 4]), (drop(1, 2), 0), (conflicts(), [0]),
            (merged(), self.cells([4, 1, 3])))
        self.check(
            *self.steps([2, 1, 3, 4], [3, 2, 1, 4]), (drop(2, 3), 0), (conflicts(), [0]),
            (merged(), self.cells([2, 1, 4])))

    def test_new_cells_do_not_count(self):
        self.check(
            *self.steps([1, 2, 3, 4], [2, 1, 3, 4]), (new(1, 2, b"n"), 5), (new(2, 0, b"m"), 5), (conflicts(), [0]))

    def test_order_of_the_base_after_adopt(self):
        """The order of the base is 4 3 2 1, so an order by numbers is another one."""
        steps = self.steps([4, 3, 2, 1], [1, 2, 3, 4]) + [(adopt(), 4), (conflicts(), [0])]
        self.check(
            *steps, (move(1, 1, 0), 0), (conflicts(), [0]), (merged(), self.cells([1, 4, 3, 2])),
            (move(2, 4, 1), 0), (conflicts(), [1, 4, 0, 0]), (choose(4, 0, 3), 0), (merged(), self.cells([4, 3, 2, 1])))


class Choose(CallCase):

    def test_answers_how_many_have_no_choice_then(self):
        self.check(
            *EVERY_CONFLICT, (choose(4, 0, 1), 3), (choose(2, 2, 1), 2), (choose(2, 2, 3), 2), (choose(2, 2, 0), 3),
            (choose(2, 2, 0), 3), (choose(1, 1, 0), 3), (choose(1, 1, 2), 2), (choose(2, 2, 2), 1),
            (choose(3, 3, 1), 0), (choose(4, 0, 0), 1))

    def test_choices_are_told(self):
        for wanted in product((1, 2, 3), repeat=4):
            self.check(*EVERY_CONFLICT, *choices(*wanted), (conflicts(), flat(
                (1, 1, wanted[0]), (2, 2, wanted[1]), (3, 3, wanted[2]), (4, 0, wanted[3]))))

    def test_taken_back_and_put_in_anothers_place(self):
        self.check(
            *EVERY_CONFLICT, *choices(1, 2, 3, 1), (choose(3, 3, 0), 1), (choose(1, 1, 2), 1),
            (conflicts(), flat((1, 1, 2), (2, 2, 2), (3, 3, 0), (4, 0, 1))), (merged(), -11), (choose(3, 3, 1), 0),
            (conflicts(), flat((1, 1, 2), (2, 2, 2), (3, 3, 1), (4, 0, 1))))

    def test_no_such_conflict(self):
        steps = EVERY_CONFLICT + choices(1, 2, 3, 1)
        wrong = [
            (1, 2), (1, 3), (1, 4), (1, 0), (2, 1), (2, 3), (3, 2), (3, 1), (4, 1), (4, 4), (0, 0), (0, 1), (5, 0),
            (-1, 1), (1, -1), (1, 99), (1, 100), (4, -1)]
        wrong += [(GREAT, 1), (-GREAT, 1), (1, GREAT), (1, -GREAT), (GREAT, GREAT), (-GREAT, -GREAT)]
        for kind, number in wrong:
            for choice in (0, 1, 3):
                self.changes_nothing(steps, choose(kind, number, choice), -9)

    def test_no_conflict_at_all(self):
        self.check((choose(4, 0, 1), -9), (base(b"a"), 1), (choose(1, 1, 1), -9), (write(1, 1, b"x"), 0),
                   (choose(1, 1, 0), -9), (choose(4, 0, 0), -9), (conflicts(), [0]))

    def test_choice_outside(self):
        steps = EVERY_CONFLICT + choices(1, 2, 3, 1)
        for choice in (-1, 4, 5, GREAT, -GREAT):
            for kind, number in ((1, 1), (2, 2), (3, 3), (4, 0)):
                self.changes_nothing(steps, choose(kind, number, choice), -10)
                self.changes_nothing(EVERY_CONFLICT, choose(kind, number, choice), -10)

    def test_no_such_conflict_comes_first(self):
        steps = EVERY_CONFLICT + choices(1, 2, 3, 1)
        for choice in (-1, 4, GREAT):
            self.changes_nothing(steps, choose(1, 2, choice), -9)
            self.changes_nothing(steps, choose(GREAT, -GREAT, choice), -9)
