"""What the tests share: calls as lists of numbers, answers call by call, and probes of what a side holds."""

import unittest

from twobooks.merge import answers

GREAT = 10 ** 18


def base(*texts):
    row = []
    for text in texts:
        row += [len(text)] + list(text)
    return base_row(row)


def base_row(row):
    return [0, len(row)] + row


def new(side, after, text=()):
    return [1, side, after, len(text)] + list(text)


def write(side, number, text=()):
    return [2, side, number, len(text)] + list(text)


def move(side, number, after):
    return [3, side, number, after]


def drop(side, number):
    return [4, side, number]


def hide(side, number, mark):
    return [5, side, number, mark]


def copy(side):
    return [6, side]


def reset(side):
    return [7, side]


def swap():
    return [8]


def document(which):
    return [9, which]


def changes(side):
    return [10, side]


def change(side, number):
    return [11, side, number]


def conflicts():
    return [12]


def choose(kind, number, choice):
    return [13, kind, number, choice]


def merged():
    return [14]


def origins():
    return [15]


def adopt():
    return [16]


def told(*cells):
    """What tells a document of these cells (number, mark, text)."""
    numbers = [len(cells)]
    for number, mark, text in cells:
        numbers += [number, mark, len(text)] + list(text)
    return numbers


def flat(*rows):
    """How many rows, then their numbers one behind the other."""
    return [len(rows)] + [number for row in rows for number in row]


# One conflict of each kind: told as 1 1, 2 2, 3 3 and 4 0. The left holds 1 3 5 6 4, the right holds 6 1 2 4 5.
EVERY_CONFLICT = [
    (base(b"1", b"2", b"3", b"4", b"5", b"6"), 6),
    (write(1, 1, b"L"), 0), (drop(1, 2), 0), (write(1, 3, b"l"), 0), (move(1, 4, 6), 0),
    (write(2, 1, b"R"), 0), (write(2, 2, b"r"), 0), (drop(2, 3), 0), (move(2, 6, 0), 0)]


def choices(text, left_has_not, right_has_not, order):
    """The steps that choose so after EVERY_CONFLICT, each choice 1 to 3."""
    return [(choose(1, 1, text), 3), (choose(2, 2, left_has_not), 2), (choose(3, 3, right_has_not), 1),
            (choose(4, 0, order), 0)]


def split(numbers):
    """The answers of each call, without their counts."""
    parts = []
    place = 0
    while place < len(numbers):
        end = place + 1 + numbers[place]
        assert numbers[place] > 0 and end <= len(numbers), "a count that doesn't fit"
        parts.append(numbers[place + 1:end])
        place = end
    return parts


def run(calls):
    numbers = [number for call in calls for number in call]
    assert 1 <= len(calls) <= 400 and len(numbers) <= 16000, "more than the interface takes"
    return split(answers(numbers))


def probes(side, cells, next_number):
    """Calls with the answers they have just if the side holds these cells (number, mark, text) and next number.

    All but the last are refused, so they change nothing; the last one is new where a new cell fits.
    """
    steps = []
    held = [number for number, mark, text in cells]
    for number in range(0, 101):
        if number not in held:
            steps.append((drop(side, number), -1))
    before = 0
    for number, mark, text in cells:
        steps.append((write(side, number, text), -7))
        steps.append((hide(side, number, mark), -7))
        steps.append((move(side, number, before), -7))
        before = number
    if len(cells) == 12:
        steps.append((new(side, 0), -6))
        steps.append((drop(side, cells[0][0]), 0))
    steps.append((new(side, 0), next_number if next_number <= 99 else -16))
    return steps


class CallCase(unittest.TestCase):

    def check(self, *steps):
        """Each step is a call and the one number, or the list of numbers, that it answers."""
        given = run([call for call, answer in steps])
        self.assertEqual(len(given), len(steps))
        for place, (call, answer) in enumerate(steps):
            wanted = answer if isinstance(answer, list) else [answer]
            self.assertEqual(given[place], wanted, f"step {place}: {call[:12]}")

    def holds(self, steps, side, cells, next_number):
        """After the steps the side holds these cells and this next number."""
        self.check(*steps, *probes(side, cells, next_number))

    def hold_all(self, steps, base_cells, left, right):
        """After the steps the base holds base_cells, and each side its cells and next number."""
        self.holds(steps, 1, left[0], left[1])
        self.holds(steps, 2, right[0], right[1])
        above = max([number for number, mark, text in base_cells], default=0) + 1
        for side in (1, 2):
            self.holds(list(steps) + [(reset(side), 0)], side, base_cells, above)

    def answers_after(self, steps, *calls):
        """What these calls answer when they're made one behind the other after the steps."""
        self.check(*steps)
        return run([call for call, answer in steps] + list(calls))[len(steps):]

    def state_after(self, steps):
        """All that the calls can tell, the next numbers too; new comes last, since it takes every choice away."""
        return self.answers_after(
            steps, document(0), document(1), document(2), conflicts(), merged(), origins(), new(1, 0), new(2, 0))

    def changes_nothing(self, steps, call, answer):
        """The call answers so after the steps, and everything is as before it, choices too."""
        steps = list(steps)
        self.assertEqual(self.state_after(steps + [(call, answer)]), self.state_after(steps), f"{call[:12]}")

    def refused(self, steps, call, answer, base_cells, left, right):
        """The call is refused so, and everything is held as before it."""
        self.hold_all(list(steps) + [(call, answer)], base_cells, left, right)
