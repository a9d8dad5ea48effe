"""The list of calls handed in, and the list of answers given back."""

import unittest

from namecourt.desk import answers
from tests import helper as h


class Guarded(list):
    """A list that lets nobody change it, not for a while either."""

    def refuse(self, *args, **kwargs):
        raise AssertionError("the list handed in is changed")

    __setitem__ = __delitem__ = __iadd__ = __imul__ = refuse
    append = extend = insert = pop = remove = reverse = sort = clear = refuse


def every_call():
    return h.in_second_vote() + h.cast([1, 1, 1, 1, 1]) + [
        h.close(1), h.publish(1), h.petition(2, "annul 1"), h.comment(2), h.withdraw(2),
        h.preside(1), h.leave(1), h.read("conserve 1 over 2"), h.show(2), h.phase(1),
    ]


class TheLists(unittest.TestCase):
    def test_each_answer_stands_behind_its_count(self):
        calls = [0, 3, 13, 9, 4, 7, 6] + h.as_bytes("annul1") + [11, 7] + h.as_bytes("annul 1")
        self.assertEqual(answers(calls), [1, 0, 1, -6, 1, -6, 4, 1, 6, 1, 0])

    def test_each_call_takes_its_own_numbers(self):
        self.assertEqual(
            h.run(every_call()),
            [[0]] * 5 + [[1], [0], [270]] + [[0]] * 5 + [[0], [3], [361]] + [[0]] * 5 + [
                [5], [1], [1], [1], [0], [0], [0], [1, 3, 1, 2],
                [0] + h.as_bytes("annul 1"), [8, 0, 0, 0, 361, 271],
            ])

    def test_an_empty_row_takes_nothing_more(self):
        self.assertEqual(answers([4, 1, 0, 11, 0, 0, 7]), [1, -1, 1, -1, 1, 0])

    def test_the_list_handed_in_stays_the_same(self):
        calls = h.joined(every_call())
        before = list(calls)
        answers(calls)
        self.assertEqual(calls, before)

    def test_the_list_handed_in_is_not_changed_for_a_while_either(self):
        calls = h.joined(every_call())
        self.assertEqual(answers(Guarded(calls)), answers(calls))

    def test_nothing_is_kept_from_one_time_to_the_next(self):
        calls = h.joined(every_call())
        first = answers(calls)
        copy = list(first)
        first.clear()
        self.assertEqual(answers(calls), copy)
        self.assertEqual(answers([13, 1, 2, 2, 0, 0]), [1, -6, 1, -6, 1, 0])

    def test_the_answer_is_a_list_of_plain_whole_numbers(self):
        told = answers(h.joined(every_call()))
        self.assertIs(type(told), list)
        self.assertEqual({type(number) for number in told}, {int})

    def test_400_calls(self):
        calls = [h.read("9" * 300)] * 60 + [h.day(7)] * 340
        self.assertEqual(h.run(calls), [[-1]] * 60 + [[0]] * 340)


if __name__ == "__main__":
    unittest.main()
