"""Point 5: what becomes of choices."""

from itertools import product

from tests.helper import (
    EVERY_CONFLICT, GREAT, CallCase, adopt, base, base_row, choices, choose, conflicts, copy, drop, flat, hide,
    merged, move, new, reset, swap, write)

CHOSEN = EVERY_CONFLICT + choices(1, 2, 3, 2)
KEPT = flat((1, 1, 1), (2, 2, 2), (3, 3, 3), (4, 0, 2))
NO_CHOICES = flat((1, 1, 0), (2, 2, 0), (3, 3, 0), (4, 0, 0))


class ChoicesAreTakenAway(CallCase):

    def takes_away(self, call, answer, then=NO_CHOICES):
        self.check(*CHOSEN, (conflicts(), KEPT), (call, answer), (conflicts(), then), (merged(), -11))

    def test_new(self):
        self.takes_away(new(1, 0, b"n"), 7)
        self.takes_away(new(2, 5), 7)

    def test_write(self):
        self.takes_away(write(1, 1, b"M"), 0)
        self.takes_away(write(2, 4, b"x"), 0)

    def test_move(self):
        self.takes_away(move(1, 3, 0), 0)
        self.takes_away(move(2, 2, 0), 0)

    def test_drop(self):
        self.takes_away(drop(1, 5), 0)
        self.takes_away(drop(2, 2), 0, flat((1, 1, 0), (3, 3, 0), (4, 0, 0)))

    def test_hide(self):
        self.takes_away(hide(1, 6, 1), 0)
        self.takes_away(hide(2, 2, 1), 0)

    def test_copy(self):
        """Of a choice that was there before a copy nothing is left when the conflict comes back."""
        for side in (1, 2):
            self.check(*CHOSEN, (copy(side), 0), (conflicts(), [0]), *self.text_conflict_again())

    def test_reset(self):
        for side in (1, 2):
            self.check(*CHOSEN, (reset(side), 0), (conflicts(), [0]), *self.text_conflict_again())

    def text_conflict_again(self):
        return [(write(1, 1, b"P"), 0), (write(2, 1, b"Q"), 0), (conflicts(), flat((1, 1, 0)))]

    def test_edit_that_is_taken_back(self):
        self.check(*CHOSEN, (write(1, 1, b"M"), 0), (write(1, 1, b"L"), 0), (conflicts(), NO_CHOICES))

    def test_edit_that_leaves_every_conflict_as_it_is(self):
        self.check(*CHOSEN, (new(1, 0), 7), (conflicts(), NO_CHOICES), (drop(1, 7), 0), (conflicts(), NO_CHOICES),
                   (merged(), -11))

    def test_base(self):
        again = [(base(b"1", b"2"), 2), (conflicts(), [0])] + self.text_conflict_again()
        self.check(*CHOSEN, *again)

    def test_adopt(self):
        self.check(*CHOSEN, (adopt(), 6), (conflicts(), [0]), *self.text_conflict_again())


class ChoicesAreKept(CallCase):

    def test_refused_edits(self):
        for side in (1, 2):
            own = {1: b"L", 2: b"R"}[side]
            for call, answer in (
                    (new(side, 77), -2), (new(side, 0, [256]), -4), (new(side, 0, [1] * 201), -5),
                    (write(side, 77), -1), (write(side, 1, [-1]), -4), (write(side, 1, [1] * 201), -5),
                    (write(side, 1, own), -7), (move(side, 77, 0), -1), (move(side, 1, 77), -2),
                    (move(side, 1, 1), -2), (drop(side, 77), -1), (hide(side, 77, 1), -1), (hide(side, 1, 2), -18),
                    (hide(side, 1, 0), -7)):
                self.changes_nothing(CHOSEN, call, answer)
        self.changes_nothing(CHOSEN, move(1, 1, 0), -7)
        self.changes_nothing(CHOSEN, move(2, 6, 0), -7)

    def test_no_side(self):
        for side in (0, 3, GREAT, -GREAT):
            for call in (new(side, 0), write(side, 1), move(side, 1, 0), drop(side, 1), hide(side, 1, 1),
                         copy(side), reset(side)):
                self.changes_nothing(CHOSEN, call, -8)

    def test_refused_new_with_twelve_cells_and_with_used_up_numbers(self):
        steps = [(base(*[b"a"] * 11), 11), (write(1, 1, b"L"), 0), (write(2, 1, b"R"), 0)]
        for number in range(12, 99):
            steps += [(new(1, 0), number), (drop(1, number), 0)]
        steps += [(new(1, 0), 99), (choose(1, 1, 3), 0)]
        kept = flat((1, 1, 3))
        self.check(*steps, (new(1, 0), -6), (conflicts(), kept))
        self.check(*steps, (drop(1, 99), 0), (choose(1, 1, 2), 0), (new(1, 0), -16), (conflicts(), flat((1, 1, 2))))

    def test_refused_base(self):
        for row, answer in (([1], -15), ([1, 256], -4), ([201] + [0] * 201, -5), ([0] * 13, -6)):
            self.changes_nothing(CHOSEN, base_row(row), answer)

    def test_refused_adopt(self):
        steps = EVERY_CONFLICT + choices(1, 2, 3, 2)[:3]
        self.changes_nothing(steps, adopt(), -11)


class ChoicesAreExchanged(CallCase):

    def test_swap_with_every_choice_of_each_kind(self):
        exchanged = {0: 0, 1: 2, 2: 1, 3: 3}
        for wanted in product((0, 1, 2, 3), repeat=4):
            conflicted = ((1, 1), (2, 2), (3, 3), (4, 0))
            steps = list(EVERY_CONFLICT)
            without = 4
            for (kind, number), choice in zip(conflicted, wanted):
                without -= choice > 0
                steps.append((choose(kind, number, choice), without))
            now = [exchanged[choice] for choice in wanted]
            self.check(
                *steps, (swap(), 0),
                (conflicts(), flat((1, 1, now[0]), (3, 2, now[1]), (2, 3, now[2]), (4, 0, now[3]))), (swap(), 0),
                (conflicts(), flat((1, 1, wanted[0]), (2, 2, wanted[1]), (3, 3, wanted[2]), (4, 0, wanted[3]))))

    def test_both_drop_conflicts_keep_their_own_choice(self):
        self.check(*EVERY_CONFLICT, (choose(2, 2, 1), 3), (swap(), 0),
                   (conflicts(), flat((1, 1, 0), (3, 2, 2), (2, 3, 0), (4, 0, 0))), (choose(2, 2, 1), -9),
                   (choose(3, 2, 0), 4))

    def test_swap_without_choices(self):
        self.check(*EVERY_CONFLICT, (swap(), 0), (conflicts(), flat((1, 1, 0), (3, 2, 0), (2, 3, 0), (4, 0, 0))))

    def test_choices_made_after_swap(self):
        self.check(*EVERY_CONFLICT, (swap(), 0), (choose(3, 2, 1), 3), (choose(2, 2, 1), -9), (swap(), 0),
                   (conflicts(), flat((1, 1, 0), (2, 2, 2), (3, 3, 0), (4, 0, 0))))
