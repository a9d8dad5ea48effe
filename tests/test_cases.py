"""The calls petition, withdraw, comment, publish, phase, stays."""

import unittest

from tests import helper as h

WRONG_CASES = (2, 0, -1, h.FAR, -h.FAR)


class Phases(unittest.TestCase):
    """What each call on a case does in each of the eight phases."""

    def check(self, call, allowed, otherwise=-13):
        for number in range(1, 9):
            calls = h.in_phase(number) + [h.phase(1), call, h.phase(1)]
            told = h.run(calls)[-3:]
            self.assertEqual(told[0][0], number)
            if number in allowed:
                self.assertEqual(told[1][0], allowed[number])
            else:
                self.assertEqual(told[1], [otherwise])
                self.assertEqual(told[2], told[0])

    def test_withdraw(self):
        self.check(h.withdraw(1), {1: 0, 3: 0})

    def test_comment(self):
        self.check(h.comment(1), {1: 1})

    def test_open_vote(self):
        self.check(h.open_vote(1), {1: -14, 3: 270})

    def test_ballot(self):
        self.check(h.ballot(1, 1, 1), {2: 0, 4: 0})

    def test_close(self):
        self.check(h.close(1), {2: -14, 4: -14})

    def test_publish(self):
        self.check(h.publish(1), {5: 1})

    def test_a_second_petition_of_the_key(self):
        self.check(h.petition(1), {}, -5)


class Petition(unittest.TestCase):
    def test_answers_how_many_proposals(self):
        calls = [h.petition(1), h.petition(h.LARGEST_KEY, "suppress 1; restore 1; suppress 1")]
        self.assertEqual(h.run(calls), [[1], [3]])
        self.assertEqual(h.last([h.petition(1, ";".join(["restore 1"] * 6))]), [6])

    def test_a_new_case_is_open_for_comments(self):
        self.assertEqual(h.last([h.day(9), h.petition(4), h.phase(4)]), [1, 9, 0, 9, 0, 0])

    def test_wrong_keys(self):
        for key in (0, -1, h.LARGEST_KEY + 1, h.FAR, -h.FAR):
            self.assertEqual(h.run([h.petition(key), h.phase(key)]), [[-4], [-6]])

    def test_refused_texts(self):
        texts = {"": -1, "   ": -1, "foo": -1, "suppress 5;": -1, "suppress 5!": -1, "restore 1000000001": -2,
                 ";".join(["restore 1"] * 7): -3, "conserve 5 over 5": -10}
        for text in texts:
            self.assertEqual(h.run([h.petition(1, text), h.phase(1)]), [[texts[text]], [-6]])

    def test_a_key_twice(self):
        calls = [h.petition(1, "suppress 5"), h.day(3), h.petition(1, "restore 6"), h.phase(1), h.show(1)]
        self.assertEqual(h.run(calls)[2:], [[-5], [1, 0, 0, 0, 0, 0], [0] + h.as_bytes("suppress 5")])

    def test_annuls_rulings_alone(self):
        for number in range(1, 9):
            calls = h.in_phase(number) + [h.petition(2, "annul 1"), h.phase(2)]
            told = h.run(calls)[-2:]
            if number == 8:
                self.assertEqual([told[0], told[1][0]], [[1], 1])
            else:
                self.assertEqual(told, [[-6], [-6]])

    def test_annuls_what_is_no_case(self):
        self.assertEqual(h.last([h.petition(1, "annul 7")]), [-6])
        self.assertEqual(h.last([h.petition(1, "annul 1")]), [-6])

    def test_one_of_several_annuls_what_is_no_ruling(self):
        for text in ("annul 1; annul 9", "annul 9; annul 1", "suppress 1; annul 9"):
            self.assertEqual(h.last(h.in_phase(8) + [h.petition(2, text)]), [-6])
        self.assertEqual(h.last(h.in_phase(8) + [h.petition(2, "suppress 9; annul 1")]), [2])

    def test_32_cases(self):
        calls = [h.petition(key) for key in range(1, 33)]
        self.assertEqual(h.run(calls + [h.petition(33), h.phase(33)]), [[1]] * 32 + [[-8], [-6]])

    def test_cases_count_in_whatever_phase(self):
        calls = h.in_phase(8) + [h.petition(key) for key in range(2, 33)] + [h.withdraw(2), h.petition(33)]
        self.assertEqual(h.run(calls)[-2:], [[0], [-8]])

    def test_the_order_of_refusals(self):
        full = [h.petition(key) for key in range(1, 33)]
        self.assertEqual(h.last(full + [h.petition(0, "foo")]), [-4])
        self.assertEqual(h.last(full + [h.petition(0, "annul 1")]), [-4])
        self.assertEqual(h.last(full + [h.petition(1, "foo; annul 0")]), [-1])
        self.assertEqual(h.last(full + [h.petition(1, ";".join(["annul 0"] * 7))]), [-3])
        self.assertEqual(h.last(full + [h.petition(1, "annul 0; conserve 5 over 5")]), [-2])
        self.assertEqual(h.last(full + [h.petition(1, "annul 1; conserve 5 over 5")]), [-10])
        self.assertEqual(h.last(full + [h.petition(33, "annul 1; conserve 5 over 5")]), [-10])
        self.assertEqual(h.last(full + [h.petition(1, "annul 1")]), [-5])
        self.assertEqual(h.last(full + [h.petition(33, "annul 1")]), [-6])
        self.assertEqual(h.last(full + [h.petition(32)]), [-5])
        self.assertEqual(h.last(full + [h.petition(33)]), [-8])


class Withdraw(unittest.TestCase):
    def test_from_phases_1_and_3(self):
        self.assertEqual(h.last(h.in_phase(1) + [h.withdraw(1), h.phase(1)]), [7, 0, 0, 0, 0, 0])
        self.assertEqual(h.last(h.in_phase(3) + [h.withdraw(1), h.phase(1)]), [7, 0, 0, 0, 270, 0])

    def test_no_such_case(self):
        for case in WRONG_CASES:
            self.assertEqual(h.last(h.in_phase(1) + [h.withdraw(case)]), [-6])

    def test_the_other_cases_stay(self):
        calls = [h.petition(1), h.petition(2), h.withdraw(1), h.phase(2)]
        self.assertEqual(h.last(calls), [1, 0, 0, 0, 0, 0])


class Comment(unittest.TestCase):
    def test_counts_and_keeps_the_last_day(self):
        calls = [h.petition(1), h.day(4), h.comment(1), h.comment(1), h.day(9), h.comment(1), h.day(11), h.phase(1)]
        self.assertEqual(h.run(calls)[2:], [[1], [2], [0], [3], [0], [1, 0, 3, 9, 0, 0]])

    def test_each_case_has_its_own(self):
        calls = [h.petition(1), h.petition(2), h.comment(1), h.comment(2), h.comment(1)]
        self.assertEqual(h.run(calls)[2:], [[1], [1], [2]])

    def test_no_such_case(self):
        for case in WRONG_CASES:
            self.assertEqual(h.last(h.in_phase(1) + [h.comment(case)]), [-6])

    def test_100_comments(self):
        calls = [h.petition(1)] + [h.comment(1)] * 100 + [h.day(5), h.comment(1), h.phase(1)]
        told = h.run(calls)
        self.assertEqual(told[1:101], [[count] for count in range(1, 101)])
        self.assertEqual(told[102:], [[-8], [1, 0, 100, 0, 0, 0]])

    def test_the_phase_is_told_ahead_of_the_100(self):
        calls = [h.petition(1)] + [h.comment(1)] * 100 + [h.withdraw(1), h.comment(1)]
        self.assertEqual(h.last(calls), [-13])


class Publish(unittest.TestCase):
    def test_keeps_the_day(self):
        calls = h.in_phase(5) + [h.day(300), h.publish(1), h.day(301), h.phase(1)]
        self.assertEqual(h.run(calls)[-3:], [[1], [0], [8, 0, 0, 0, 270, 300]])

    def test_how_many_rulings_there_are(self):
        calls = [h.seat(1), h.seat(2), h.seat(3)]
        for place in range(3):
            calls += h.made_ruling(50 - place, today=180 * place)
            self.assertEqual(h.last(calls), [place + 1])

    def test_only_once(self):
        calls = h.in_phase(8) + [h.day(999), h.publish(1), h.phase(1)]
        self.assertEqual(h.run(calls)[-2:], [[-13], [8, 0, 0, 0, 270, 180]])

    def test_adopted_in_the_second_vote(self):
        calls = h.in_second_vote() + h.cast([1, 1, 1, 2, 2]) + [h.close(1), h.publish(1), h.phase(1)]
        self.assertEqual(h.run(calls)[-3:], [[5], [1], [8, 0, 0, 0, 361, 271]])

    def test_no_such_case(self):
        for case in WRONG_CASES:
            self.assertEqual(h.last(h.in_phase(5) + [h.publish(case)]), [-6])

    def test_refusals_add_no_ruling(self):
        calls = h.in_phase(5) + [h.publish(2), h.petition(2), h.publish(2), h.publish(1)]
        self.assertEqual(h.run(calls)[-4:], [[-6], [1], [-13], [1]])


class Phase(unittest.TestCase):
    def test_no_such_case(self):
        for case in WRONG_CASES:
            self.assertEqual(h.last(h.in_phase(1) + [h.phase(case)]), [-6])

    def test_the_days_of_each_phase(self):
        told = [h.last(h.in_phase(number) + [h.phase(1)]) for number in range(1, 9)]
        self.assertEqual(told, [
            [1, 0, 0, 0, 0, 0], [2, 0, 0, 0, 270, 0], [3, 0, 0, 0, 270, 0], [4, 0, 0, 0, 361, 0],
            [5, 0, 0, 0, 270, 0], [6, 0, 0, 0, 270, 0], [7, 0, 0, 0, 0, 0], [8, 0, 0, 0, 270, 180]])

    def test_comments_are_still_told_later(self):
        calls = [h.day(2), h.petition(1), h.day(10), h.comment(1), h.day(182), h.open_vote(1), h.phase(1)]
        self.assertEqual(h.last(calls), [2, 2, 1, 10, 272, 0])


class Stays(unittest.TestCase):
    def test_no_case(self):
        self.assertEqual(h.last([h.stays(5)]), [0])

    def test_in_each_phase(self):
        for number in range(1, 9):
            told = h.run(h.in_phase(number) + [h.phase(1), h.stays(5), h.stays(6)])[-3:]
            self.assertEqual(told[0][0], number)
            self.assertEqual(told[1:], [[0, 1] if number <= 5 else [0], [0]], number)

    def test_each_kind(self):
        about = {"restore 5": (5,), "suppress 5": (5,), "suppress 5 wholly": (5,), "conserve 5 over 6": (5, 6),
                 "conserve 6 over 5": (5, 6), "type 5 is 6": (5,), "type 6 is 5": (6,), "type 5 is 5": (5,),
                 "reject work 5": ()}
        for text in about:
            for n in (5, 6, 7):
                expected = [0, 9] if n in about[text] else [0]
                self.assertEqual(h.last([h.petition(9, text), h.stays(n)]), expected, (text, n))

    def test_annulments_are_about_no_name(self):
        calls = h.with_rulings(["suppress 1"]) + [h.petition(2, "annul 1"), h.stays(1), h.stays(2)]
        self.assertEqual(h.run(calls)[-2:], [[0], [0]])
        calls = h.with_rulings(["suppress 1"]) + [h.petition(2, "annul 1; restore 1"), h.stays(1)]
        self.assertEqual(h.last(calls), [0, 2])

    def test_by_rising_keys(self):
        calls = [h.petition(30), h.petition(h.LARGEST_KEY), h.petition(4), h.petition(7, "suppress 6"), h.petition(100)]
        self.assertEqual(h.last(calls + [h.stays(5)]), [0, 4, 30, 100, h.LARGEST_KEY])
        self.assertEqual(h.last(calls + [h.withdraw(30), h.stays(5)]), [0, 4, 100, h.LARGEST_KEY])

    def test_one_of_several_proposals(self):
        text = "reject work 5; conserve 1 over 2; type 3 is 4; restore 7"
        for n in range(9):
            expected = [0, 8] if n in (1, 2, 3, 7) else [0]
            self.assertEqual(h.last([h.petition(8, text), h.stays(n)]), expected, n)

    def test_a_case_is_told_once(self):
        calls = [h.petition(8, "suppress 5; restore 5; conserve 5 over 6; conserve 7 over 5"), h.stays(5)]
        self.assertEqual(h.last(calls), [0, 8])

    def test_any_other_number_is_no_name(self):
        for n in (0, -1, -5, h.LARGEST_KEY + 1, h.FAR, -h.FAR):
            self.assertEqual(h.last([h.petition(1), h.petition(2, "conserve 5 over 6"), h.stays(n)]), [0])

    def test_the_smallest_and_the_largest_name(self):
        calls = [h.petition(1, "conserve 1 over 1000000000"), h.stays(1), h.stays(h.LARGEST_KEY)]
        self.assertEqual(h.run(calls)[1:], [[0, 1], [0, 1]])


if __name__ == "__main__":
    unittest.main()
