"""Left and right mean the same: over many pairs of sides, exchanged by swap and built the other way round."""

import random

from tests.helper import (
    CallCase, adopt, base, change, changes, choose, conflicts, copy, document, drop, hide, merged, move, new, origins,
    reset, run, swap, write)

EXCHANGED_KINDS = {1: 1, 2: 3, 3: 2, 4: 4}
EXCHANGED_CHOICES = {1: 2, 2: 1, 3: 3}


def some_text(chance):
    return b"\n".join(chance.choice([b"", b"a", b"b", b"a"]) for line in range(chance.randrange(1, 6)))


def some_edit(chance, side):
    number = chance.randrange(1, 8)
    return chance.choice([
        new(side, chance.choice([0, 0, number]), chance.choice([b"a", b"a", b"b"])),
        write(side, number, some_text(chance)), write(side, number, some_text(chance)),
        move(side, number, chance.randrange(0, 8)), drop(side, number), hide(side, number, chance.randrange(0, 2))])


def exchanged_edit(call):
    return [call[0], 3 - call[1]] + call[2:]


def triples(numbers):
    return [tuple(numbers[place:place + 3]) for place in range(1, len(numbers), 3)]


class Exchange(CallCase):

    def scene(self, seed):
        """A base and edits of both sides, and the same with left and right exchanged."""
        # Of a fixed seed the numbers are the same ones each time.
        chance = random.Random(seed)
        begin = base(*[some_text(chance) for cell in range(chance.randrange(0, 7))])
        edits = [some_edit(chance, chance.choice([1, 2])) for edit in range(chance.randrange(0, 14))]
        straight = [begin] + edits
        crossed = [begin] + [exchanged_edit(call) for call in edits]
        chosen = [chance.randrange(1, 4) for conflict in range(13)]
        found = triples(run(straight + [conflicts()])[-1])
        straight += [choose(kind, number, choice) for (kind, number, none), choice in zip(found, chosen)]
        crossed += [choose(EXCHANGED_KINDS[kind], number, EXCHANGED_CHOICES[choice])
                    for (kind, number, none), choice in zip(found, chosen)]
        return straight, crossed

    def test_exchanged(self):
        tail = [document(1), document(2), changes(1), changes(2), change(1, 1), change(2, 1), conflicts(), merged(),
                origins(), adopt(), document(0), document(1), document(2), new(1, 0), new(2, 0)]
        seen = {"conflicts": 0, "once": 0}
        for seed in range(600):
            straight, crossed = self.scene(seed)
            first = run(straight + tail)[-len(tail):]
            wanted = list(first)
            for place in (0, 2, 4, 13):
                wanted[place:place + 2] = [first[place + 1], first[place]]
            wanted[6] = [first[6][0]] + [
                number for kind, cell, choice in triples(first[6])
                for number in (EXCHANGED_KINDS[kind], cell, EXCHANGED_CHOICES[choice])]
            if first[8][0] >= 0:
                wanted[8] = [first[8][0]] + [
                    number for there, left, right in triples(first[8]) for number in (there, right, left)]
            self.assertEqual(run(straight + [swap()] + tail)[-len(tail):], wanted, seed)
            self.assertEqual(run(crossed + tail)[-len(tail):], wanted, seed)
            self.assertEqual(run(straight + [swap(), swap()] + tail)[-len(tail):], first, seed)
            seen["conflicts"] += first[6][0] > 0
            seen["once"] += any(left != there and left > 0 and right > 0 for there, left, right in triples(first[8]))
        # The scenes are worth something only as long as such pairs of sides are among them.
        self.assertGreater(min(seen.values()), 10, seen)

    def test_copy_of_one_side_merges_to_that_side(self):
        for seed in range(200):
            straight = self.scene(seed)[0]
            given = run(straight + [copy(2), conflicts(), document(1), merged()])[-3:]
            self.assertEqual(given[0], [0], seed)
            # New cells get other numbers.
            self.assertEqual(self.without_numbers(given[2]), self.without_numbers(given[1]), seed)

    def test_unchanged_side_merges_to_the_other(self):
        for seed in range(200):
            straight = self.scene(seed)[0]
            given = run(straight + [reset(2), conflicts(), document(1), merged()])[-3:]
            self.assertEqual(given[0], [0], seed)
            self.assertEqual(self.without_numbers(given[2]), self.without_numbers(given[1]), seed)

    def without_numbers(self, numbers):
        cells = []
        place = 1
        while place < len(numbers):
            end = place + 3 + numbers[place + 2]
            cells.append(numbers[place + 1:end])
            place = end
        self.assertEqual(len(cells), numbers[0])
        return cells
