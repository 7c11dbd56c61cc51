"""What the tests share: calls as lists of numbers, answers call by call, and probes of what a side holds."""

import unittest

from twobooks.merge import answers

GREAT = 10 ** 18


def base(*texts):
    row = []
    for text in texts:
        row += [len(text)] + list(text)
    return base_row(row)


def base_row(row):
    return [0, len(row)] + row


def new(side, after, text=()):
    return [1, side, after, len(text)] + list(text)


def write(side, number, text=()):
    return [2, side, number, len(text)] + list(text)


def move(side, number, after):
    return [3, side, number, after]


def drop(side, number):
    return [4, side, number]


def hide(side, number, mark):
    return [5, side, number, mark]


def copy(side):
    return [6, side]


def reset(side):
    return [7, side]


def swap():
    return [8]


def split(numbers):
    """The answers of each call, without their counts."""
    told = []
    place = 0
    while place < len(numbers):
        end = place + 1 + numbers[place]
        assert numbers[place] > 0 and end <= len(numbers), "a count that doesn't fit"
        told.append(numbers[place + 1:end])
        place = end
    return told


def run(calls):
    numbers = [number for call in calls for number in call]
    assert 1 <= len(calls) <= 400 and len(numbers) <= 16000, "more than the interface takes"
    return split(answers(numbers))


def probes(side, cells, next_number):
    """Calls with the answers they have just if the side holds these cells (number, mark, text) and next number.

    All but the last are refused, so they change nothing; the last one is new where a new cell fits.
    """
    steps = []
    held = [number for number, mark, text in cells]
    for number in range(0, 101):
        if number not in held:
            steps.append((drop(side, number), -1))
    before = 0
    for number, mark, text in cells:
        steps.append((write(side, number, text), -7))
        steps.append((hide(side, number, mark), -7))
        steps.append((move(side, number, before), -7))
        before = number
    if len(cells) == 12:
        steps.append((new(side, 0), -6))
        steps.append((drop(side, cells[0][0]), 0))
    steps.append((new(side, 0), next_number if next_number <= 99 else -16))
    return steps


class CallCase(unittest.TestCase):

    def check(self, *steps):
        """Each step is a call and the one number that it answers."""
        told = run([call for call, answer in steps])
        self.assertEqual(len(told), len(steps))
        for place, (call, answer) in enumerate(steps):
            self.assertEqual(told[place], [answer], f"step {place}: {call[:12]}")

    def holds(self, steps, side, cells, next_number):
        """After the steps the side holds these cells and this next number."""
        self.check(*steps, *probes(side, cells, next_number))

    def hold_all(self, steps, base_cells, left, right):
        """After the steps the base holds base_cells, and each side its cells and next number."""
        self.holds(steps, 1, left[0], left[1])
        self.holds(steps, 2, right[0], right[1])
        above = max([number for number, mark, text in base_cells], default=0) + 1
        for side in (1, 2):
            self.holds(list(steps) + [(reset(side), 0)], side, base_cells, above)

    def refused(self, steps, call, answer, base_cells, left, right):
        """The call is refused so, and everything is held as before it."""
        self.hold_all(list(steps) + [(call, answer)], base_cells, left, right)
