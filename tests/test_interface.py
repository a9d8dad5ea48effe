"""The list of calls handed in, and the list of answers given back."""

import contextlib
import inspect
import io
import sys
import unittest

from namecourt.desk import answers
from tests import helper as h


class Guarded(list):
    """A list that lets nobody change it, not for a while either."""

    def refuse(self, *args, **kwargs):
        raise AssertionError("the list handed in is changed")

    __setitem__ = __delitem__ = __iadd__ = __imul__ = refuse
    append = extend = insert = pop = remove = reverse = sort = clear = refuse


def every_change():
    """All calls that change something."""
    return h.in_second_vote() + h.cast([1, 1, 1, 1, 1]) + [
        h.close(1), h.publish(1), h.petition(2, "annul 1"), h.comment(2), h.withdraw(2), h.preside(1), h.leave(1),
    ]


def every_question():
    """All calls that change nothing, and their answers behind every_change."""
    return [
        (h.read("conserve 1 over 2"), [1, 3, 1, 2]),
        (h.show(2), [0] + h.as_bytes("annul 1")),
        (h.phase(1), [8, 0, 0, 0, 361, 271]),
        (h.tally(1), [0, 5, 0, 0]),
        (h.office(), [0, 0] + h.joined([(member, h.LAST_DAY) for member in (2, 3, 4, 5)])),
        (h.rulings(271), [0, 1, 1]),
        (h.in_force(271, 1), [1]),
        (h.because(271, 1), [0, 1, 1]),
        (h.check(271, 1, 1, [1, 1]), [1]),
        (h.status(271, 5), [0, 1, 1]),
        (h.over(271, 5, 6), [0, 0, 0]),
        (h.type_at(271, 5), [0, 0, 0]),
        (h.rejected(271, 5), [0, 0]),
        (h.index(271), [0, 5, 1, 1]),
        (h.conserved(271), [0]),
        (h.stays(5), [0]),
    ]


def every_call():
    return every_change() + [question for question, answer in every_question()]


def every_refusal():
    """Calls that are refused behind every_change, and how."""
    return [
        (h.day(-1), -9), (h.day(270), -12),
        (h.seat(0), -4), (h.seat(9, -1), -9), (h.seat(9, 270), -12), (h.seat(2), -5),
        (h.leave(1), -6), (h.preside(1), -6),
        (h.petition(0), -4), (h.petition(3, ""), -1), (h.petition(3, "annul 0"), -2),
        (h.petition(3, ";".join(["annul 1"] * 7)), -3), (h.petition(3, "conserve 5 over 5"), -10),
        (h.petition(1), -5), (h.petition(3, "annul 2"), -6),
        (h.withdraw(3), -6), (h.withdraw(1), -13), (h.comment(3), -6), (h.comment(2), -13),
        (h.open_vote(3), -6), (h.open_vote(1), -13), (h.ballot(3, 2, 1), -6), (h.ballot(1, 2, 1), -13),
        (h.close(3), -6), (h.close(1), -13), (h.publish(3), -6), (h.publish(1), -13),
        (h.read(""), -1), (h.show(3), -6), (h.phase(3), -6), (h.tally(3), -6),
        (h.rulings(-1), -9), (h.in_force(-1, 1), -9), (h.in_force(271, 2), -6), (h.in_force(270, 1), -6),
        (h.because(-1, 1), -9), (h.because(271, 2), -6), (h.because(270, 1), -6),
        (h.check(-1, 1, 1, [1, 1]), -9), (h.check(271, 2, 1, [1, 1]), -6), (h.check(270, 1, 1, [1, 1]), -6),
        (h.status(-1, 5), -9), (h.over(-1, 5, 5), -9), (h.over(271, 5, 5), -10), (h.type_at(-1, 5), -9),
        (h.rejected(-1, 5), -9), (h.index(-1), -9), (h.conserved(-1), -9),
    ]


class TheLists(unittest.TestCase):
    def test_each_answer_stands_behind_its_count(self):
        calls = [0, 3, 13, 9, 4, 7, 6] + h.as_bytes("annul1") + [11, 7] + h.as_bytes("annul 1")
        self.assertEqual(answers(calls), [1, 0, 1, -6, 1, -6, 4, 1, 6, 1, 0])

    def test_each_call_takes_its_own_numbers(self):
        self.assertEqual(
            h.run(every_call()),
            [[0]] * 5 + [[1], [0], [270]] + [[0]] * 5 + [[0], [3], [361]] + [[0]] * 5 + [
                [5], [1], [1], [1], [0], [0], [0]] + [answer for question, answer in every_question()])

    def test_all_calls_from_0_to_26_are_among_them(self):
        self.assertEqual({call[0] for call in every_call()}, set(range(27)))

    def test_questions_in_whatever_order(self):
        pairs = every_question()
        for turn in range(len(pairs)):
            turned = pairs[turn:] + pairs[:turn] + pairs[::-1]
            told = h.asked(every_change(), [question for question, answer in turned])
            self.assertEqual(told, [answer for question, answer in turned])

    def test_questions_and_changes_by_turns(self):
        changes = every_change()
        questions = [question for question, answer in every_question()]
        calls = []
        for place, change in enumerate(changes):
            calls += [change, questions[place % len(questions)]]
        self.assertEqual(h.run(calls)[::2], h.run(changes))

    def test_a_refusal_is_one_number_alone_and_changes_nothing(self):
        questions = [question for question, answer in every_question()]
        for call, refusal in every_refusal():
            told = h.asked(every_change(), [call] + questions)
            self.assertEqual(told, [[refusal]] + [answer for question, answer in every_question()], call)

    def test_check_takes_its_row_and_office_takes_nothing(self):
        calls = [19, 0, 7, 1, 4, 15, 15, 15, 15, 15, 19, -1, 1, 1, 0, 15, 26, 5]
        self.assertEqual(answers(calls), [1, -6, 2, 0, 0, 1, -9, 2, 0, 0, 1, 0])

    def test_an_empty_row_takes_nothing_more(self):
        self.assertEqual(answers([4, 1, 0, 11, 0, 0, 7]), [1, -1, 1, -1, 1, 0])

    def test_the_list_handed_in_stays_the_same(self):
        calls = h.joined(every_call())
        before = list(calls)
        answers(calls)
        self.assertEqual(calls, before)

    def test_the_list_handed_in_is_not_changed_for_a_while_either(self):
        calls = h.joined(every_call())
        self.assertEqual(answers(Guarded(calls)), answers(calls))

    def test_nothing_is_kept_from_one_time_to_the_next(self):
        calls = h.joined(every_call())
        first = answers(calls)
        copy = list(first)
        first.clear()
        self.assertEqual(answers(calls), copy)
        self.assertEqual(answers([13, 1, 2, 2, 0, 0]), [1, -6, 1, -6, 1, 0])

    def test_the_answer_is_a_list_of_plain_whole_numbers(self):
        told = answers(h.joined(every_call()))
        self.assertIs(type(told), list)
        self.assertEqual({type(number) for number in told}, {int})

    def test_it_prints_nothing(self):
        with contextlib.redirect_stdout(io.StringIO()) as out, contextlib.redirect_stderr(io.StringIO()) as err:
            answers(h.joined(every_call()))
        self.assertEqual(out.getvalue() + err.getvalue(), "")

    def test_what_is_long_is_gone_through_by_loops(self):
        chain = h.with_rulings(["suppress 5"] + [f"annul {case}" for case in range(1, 32)])
        whole = h.joined([(case, 1 - case % 2) for case in range(1, 33)])
        calls = chain + [h.because(h.LAST_DAY, 1), h.check(h.LAST_DAY, 1, 0, whole), h.index(), h.read("9" * 300)]
        numbers = h.joined(calls + [h.office()] * (400 - len(calls)))
        limit = sys.getrecursionlimit()
        sys.setrecursionlimit(len(inspect.stack(0)) + 25)
        try:
            told = answers(numbers)
        finally:
            sys.setrecursionlimit(limit)
        self.assertEqual(told, answers(numbers))

    def test_400_calls(self):
        calls = [h.read("9" * 300)] * 60 + [h.day(7)] * 340
        self.assertEqual(h.run(calls), [[-1]] * 60 + [[0]] * 340)


if __name__ == "__main__":
    unittest.main()
