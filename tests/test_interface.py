"""The interface: one list in, one list out, nothing changed and nothing kept."""

import inspect
import unittest

from itertools import product

from tests.helper import (
    EVERY_CONFLICT, GREAT, adopt, base, base_row, change, changes, choices, choose, conflicts, copy, document, drop,
    flat, hide, merged, move, new, origins, reset, run, swap, told, write)
from twobooks.merge import answers


class Unchanged(list):
    """A list that fails wherever it would be changed, were it for a while."""

    def fail(self, *arguments, **named):
        raise AssertionError("the list that is handed in is changed")

    append = extend = insert = pop = remove = clear = reverse = sort = fail
    __setitem__ = __delitem__ = __iadd__ = __imul__ = fail


EVERY_CALL = [
    (base([65], [66, 10], []), 3), (new(1, 2, [1, 2]), 4), (write(2, 3, [7]), 0), (move(1, 1, 4), 0),
    (drop(2, 1), 0), (hide(1, 2, 1), 0), (copy(2), 0), (reset(1), 0), (swap(), 0), (base_row([5, 1]), -15),
    (base_row([1, 256]), -4), (new(1, 0, [3] * 201), -5), (write(1, 77), -1), (move(2, 1, 1), -2),
    (hide(1, 1, 2), -18), (hide(1, 1, 0), -7), (copy(GREAT), -8), (reset(-GREAT), -8), (drop(0, 0), -8),
    (document(1), told((2, 1, [66, 10]), (4, 0, [1, 2]), (1, 0, [65]), (3, 0, []))), (changes(1), [1, 2, 2, 4, 4, 2]),
    (write(1, 2, [67, 10]), 0), (change(1, 2), [0, 1, 1, 1, 67]), (write(2, 2, [68]), 0),
    (conflicts(), flat((1, 2, 0))), (merged(), -11), (origins(), -11), (adopt(), -11), (choose(1, 1, 1), -9),
    (choose(1, 2, 4), -10), (choose(1, 2, 2), 0), (document(3), -19), (change(2, 4), -1), (changes(0), -8),
    (merged(), told((2, 1, [68]), (5, 0, [1, 2]), (1, 0, [65]), (3, 0, []))),
    (origins(), flat((2, 2, 2), (5, 4, 0), (1, 1, 1), (3, 3, 3))), (adopt(), 4), (conflicts(), [0]),
    (document(0), told((2, 1, [68]), (5, 0, [1, 2]), (1, 0, [65]), (3, 0, [])))]


def with_count(answer):
    return [len(answer)] + answer if isinstance(answer, list) else [1, answer]


CALLS = [number for call, answer in EVERY_CALL for number in call]
ANSWERS = [number for call, answer in EVERY_CALL for number in with_count(answer)]


class Interface(unittest.TestCase):

    def test_name_and_argument(self):
        self.assertEqual(list(inspect.signature(answers).parameters), ["calls"])
        self.assertEqual(answers(calls=[8]), [1, 0])

    def test_one_call(self):
        self.assertEqual(answers([0, 0]), [1, 0])
        self.assertEqual(answers([0, 3, 0, 1, 255]), [1, 2])
        self.assertEqual(answers([1, 1, 0, 2, 9, 9]), [1, 1])
        self.assertEqual(answers([2, 1, 1, 0]), [1, -1])
        self.assertEqual(answers([3, 1, 1, 0]), [1, -1])
        self.assertEqual(answers([4, 2, 1]), [1, -1])
        self.assertEqual(answers([5, 2, 1, 1]), [1, -1])
        self.assertEqual(answers([6, 3]), [1, -8])
        self.assertEqual(answers([7, 2]), [1, 0])
        self.assertEqual(answers([8]), [1, 0])
        self.assertEqual(answers([9, 2]), [1, 0])
        self.assertEqual(answers([10, 1]), [2, 0, 0])
        self.assertEqual(answers([11, 1, 1]), [1, -1])
        self.assertEqual(answers([12]), [1, 0])
        self.assertEqual(answers([13, 4, 0, 1]), [1, -9])
        self.assertEqual(answers([14]), [1, 0])
        self.assertEqual(answers([15]), [1, 0])
        self.assertEqual(answers([16]), [1, 0])

    def test_every_call_is_among_them(self):
        self.assertEqual({call[0] for call, answer in EVERY_CALL}, set(range(17)))

    def test_several_calls_each_with_its_count_ahead(self):
        self.assertEqual(answers(list(CALLS)), ANSWERS)

    def test_refused_calls_are_read_to_their_end(self):
        self.assertEqual(answers([1, 9, 8, 3, 8, 8, 8, 8]), [1, -8, 1, 0])
        self.assertEqual(answers([2, 9, 8, 2, 8, 8, 8]), [1, -8, 1, 0])
        self.assertEqual(answers([0, 2, 8, 8, 8, 8]), [1, -15, 1, 0, 1, 0])
        self.assertEqual(answers([9, 8, 10, 8, 11, 8, 8, 13, 8, 8, 8, 8]), [1, -19, 1, -8, 1, -8, 1, -9, 1, 0])

    def test_four_hundred_calls(self):
        calls = [8] * 399 + [7, 1]
        self.assertEqual(answers(calls), [1, 0] * 400)

    def test_four_hundred_calls_with_long_answers(self):
        """Every answer of the last calls is as long as any can be."""
        steps = [base(*[[10] * 199 + [1]] * 12)]
        steps += [write(side, number, [10] * 199 + [1 + side]) for side in (1, 2) for number in range(1, 13)]
        steps += [choose(1, number, 2) for number in range(1, 13)]
        given = run(steps + [merged()] * (400 - len(steps)))
        cells = told(*[(number, 0, [10] * 199 + [3]) for number in range(1, 13)])
        self.assertEqual(len(cells), 2437)
        self.assertEqual(given[len(steps):], [cells] * (400 - len(steps)))

    def test_great_whole_numbers_in_every_place(self):
        great = (GREAT, -GREAT)
        wholes = {1: 2, 2: 2, 3: 3, 4: 2, 5: 3, 6: 1, 7: 1, 9: 1, 10: 1, 11: 2, 13: 3}
        refusals = {9: -19, 13: -9}
        prepared = [call for call, answer in EVERY_CONFLICT + choices(1, 2, 3, 1)]
        before = run(prepared + [document(0), document(1), document(2), conflicts()])[-4:]
        for call, count in wholes.items():
            for numbers in product(great, repeat=count):
                rows = [0] if call in (1, 2) else []
                made = [call] + list(numbers) + rows
                given = run(prepared + [made, document(0), document(1), document(2), conflicts()])[-5:]
                self.assertEqual(given, [[refusals.get(call, -8)]] + before)

    def test_great_whole_number_in_one_place(self):
        prepared = [call for call, answer in EVERY_CONFLICT]
        for great in (GREAT, -GREAT):
            for made, answer in (
                    (new(1, great), -2), (new(1, 0, [great]), -4), (write(1, great), -1), (write(1, 1, [great]), -4),
                    (move(1, great, 0), -1), (move(1, 1, great), -2), (drop(2, great), -1), (hide(2, great, 1), -1),
                    (hide(2, 1, great), -18), (change(1, great), -1), (change(great, 1), -8), (choose(great, 1, 1), -9),
                    (choose(1, great, 1), -9), (choose(1, 1, great), -10), (base_row([great]), -15),
                    (base_row([1, great]), -4), (document(great), -19), (changes(great), -8)):
                self.assertEqual(run(prepared + [made])[-1], [answer], made)

    def test_sixteen_thousand_numbers(self):
        calls = base_row([0] * 3998) * 4
        self.assertEqual(len(calls), 16000)
        self.assertEqual(answers(calls), [1, -6] * 4)

    def test_list_handed_in_is_the_same_afterwards(self):
        calls = list(CALLS)
        answers(calls)
        self.assertEqual(calls, CALLS)

    def test_list_handed_in_is_not_changed_for_a_while_either(self):
        self.assertEqual(answers(Unchanged(CALLS)), ANSWERS)

    def test_second_time_is_as_the_first_time(self):
        calls = list(CALLS)
        first = answers(calls)
        self.assertEqual(answers([1, 1, 0, 0]), [1, 1])
        second = answers(calls)
        self.assertEqual(first, ANSWERS)
        self.assertEqual(second, ANSWERS)
        first.append(5)
        self.assertEqual(answers(calls), ANSWERS)
        self.assertEqual(answers([1, 1, 0, 0]), [1, 1])

    def test_answer_is_a_list_of_whole_numbers(self):
        told = answers(list(CALLS))
        self.assertIs(type(told), list)
        self.assertEqual({type(number) for number in told}, {int})
