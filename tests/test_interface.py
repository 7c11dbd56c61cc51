"""The interface: one list in, one list out, nothing changed and nothing kept."""

import inspect
import unittest

from tests.helper import GREAT, base, base_row, copy, drop, hide, move, new, reset, swap, write
from twobooks.merge import answers


class Unchanged(list):
    """A list that fails wherever it would be changed, were it for a while."""

    def fail(self, *arguments, **named):
        raise AssertionError("the list that is handed in is changed")

    append = extend = insert = pop = remove = clear = reverse = sort = fail
    __setitem__ = __delitem__ = __iadd__ = __imul__ = fail


EVERY_CALL = [
    (base([65], [66, 10], []), 3), (new(1, 2, [1, 2]), 4), (write(2, 3, [7]), 0), (move(1, 1, 4), 0),
    (drop(2, 1), 0), (hide(1, 2, 1), 0), (copy(2), 0), (reset(1), 0), (swap(), 0), (base_row([5, 1]), -15),
    (base_row([1, 256]), -4), (new(1, 0, [3] * 201), -5), (write(1, 77), -1), (move(2, 1, 1), -2),
    (hide(1, 1, 2), -18), (hide(1, 1, 0), -7), (copy(GREAT), -8), (reset(-GREAT), -8), (drop(0, 0), -8)]
CALLS = [number for call, answer in EVERY_CALL for number in call]
ANSWERS = [number for call, answer in EVERY_CALL for number in (1, answer)]


class Interface(unittest.TestCase):

    def test_name_and_argument(self):
        self.assertEqual(list(inspect.signature(answers).parameters), ["calls"])
        self.assertEqual(answers(calls=[8]), [1, 0])

    def test_one_call(self):
        self.assertEqual(answers([0, 0]), [1, 0])
        self.assertEqual(answers([0, 3, 0, 1, 255]), [1, 2])
        self.assertEqual(answers([1, 1, 0, 2, 9, 9]), [1, 1])
        self.assertEqual(answers([2, 1, 1, 0]), [1, -1])
        self.assertEqual(answers([3, 1, 1, 0]), [1, -1])
        self.assertEqual(answers([4, 2, 1]), [1, -1])
        self.assertEqual(answers([5, 2, 1, 1]), [1, -1])
        self.assertEqual(answers([6, 3]), [1, -8])
        self.assertEqual(answers([7, 2]), [1, 0])
        self.assertEqual(answers([8]), [1, 0])

    def test_several_calls_each_with_its_count_ahead(self):
        self.assertEqual(answers(list(CALLS)), ANSWERS)

    def test_refused_calls_are_read_to_their_end(self):
        self.assertEqual(answers([1, 9, 8, 3, 8, 8, 8, 8]), [1, -8, 1, 0])
        self.assertEqual(answers([2, 9, 8, 2, 8, 8, 8]), [1, -8, 1, 0])
        self.assertEqual(answers([0, 2, 8, 8, 8, 8]), [1, -15, 1, 0, 1, 0])

    def test_four_hundred_calls(self):
        calls = [8] * 399 + [7, 1]
        self.assertEqual(answers(calls), [1, 0] * 400)

    def test_sixteen_thousand_numbers(self):
        calls = base_row([0] * 3998) * 4
        self.assertEqual(len(calls), 16000)
        self.assertEqual(answers(calls), [1, -6] * 4)

    def test_list_handed_in_is_the_same_afterwards(self):
        calls = list(CALLS)
        answers(calls)
        self.assertEqual(calls, CALLS)

    def test_list_handed_in_is_not_changed_for_a_while_either(self):
        self.assertEqual(answers(Unchanged(CALLS)), ANSWERS)

    def test_second_time_is_as_the_first_time(self):
        calls = list(CALLS)
        first = answers(calls)
        self.assertEqual(answers([1, 1, 0, 0]), [1, 1])
        second = answers(calls)
        self.assertEqual(first, ANSWERS)
        self.assertEqual(second, ANSWERS)
        first.append(5)
        self.assertEqual(answers(calls), ANSWERS)
        self.assertEqual(answers([1, 1, 0, 0]), [1, 1])

    def test_answer_is_a_list_of_whole_numbers(self):
        told = answers(list(CALLS))
        self.assertIs(type(told), list)
        self.assertEqual({type(number) for number in told}, {int})
