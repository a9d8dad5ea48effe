"""The calls openVote, ballot, close, tally."""

import unittest

from tests import helper as h

WRONG_CASES = (2, 0, -1, h.FAR, -h.FAR)


class OpenVote(unittest.TestCase):
    def test_180_days_after_the_petition(self):
        begin = [h.day(7), h.petition(1)]
        self.assertEqual(h.run(begin + [h.day(186), h.open_vote(1), h.phase(1)])[3:], [[-14], [1, 7, 0, 7, 0, 0]])
        self.assertEqual(h.run(begin + [h.day(187), h.open_vote(1), h.phase(1)])[3:], [[277], [2, 7, 0, 7, 277, 0]])

    def test_30_days_after_the_last_comment(self):
        begin = [h.petition(1), h.comment(1), h.day(170), h.comment(1)]
        self.assertEqual(h.run(begin + [h.day(199), h.open_vote(1), h.phase(1)])[5:], [[-14], [1, 0, 2, 170, 0, 0]])
        self.assertEqual(h.run(begin + [h.day(200), h.open_vote(1), h.phase(1)])[5:], [[290], [2, 0, 2, 170, 290, 0]])

    def test_30_days_after_the_only_comment(self):
        begin = [h.petition(1), h.day(170), h.comment(1)]
        self.assertEqual(h.last(begin + [h.day(199), h.open_vote(1)]), [-14])
        self.assertEqual(h.last(begin + [h.day(200), h.open_vote(1)]), [290])

    def test_a_comment_long_ago_does_not_shorten_the_180_days(self):
        begin = [h.petition(1), h.comment(1)]
        self.assertEqual(h.last(begin + [h.day(179), h.open_vote(1)]), [-14])
        self.assertEqual(h.last(begin + [h.day(180), h.open_vote(1)]), [270])

    def test_the_second_vote_has_a_closing_day_of_its_own(self):
        calls = h.in_first_vote() + h.cast([1, 1, 1, 2, 2]) + [h.close(1), h.open_vote(1), h.phase(1)]
        self.assertEqual(h.run(calls)[-3:], [[3], [270], [4, 0, 0, 0, 270, 0]])
        calls = h.in_first_vote() + h.cast([1, 1, 1, 2, 2]) + [h.close(1), h.day(400), h.open_vote(1), h.phase(1)]
        self.assertEqual(h.run(calls)[-2:], [[490], [4, 0, 0, 0, 490, 0]])

    def test_the_second_vote_has_no_ballots(self):
        self.assertEqual(h.run(h.in_second_vote() + h.cast([2, 2, 2, 2, 2]) + [h.close(1)])[-6:], [[0]] * 5 + [[6]])
        self.assertEqual(h.last(h.in_second_vote() + [h.day(362), h.close(1)]), [6])
        self.assertEqual(h.last(h.in_second_vote() + [h.day(361), h.close(1)]), [-14])

    def test_the_closing_day_may_lie_behind_the_last_day(self):
        calls = [h.petition(1), h.day(h.LAST_DAY), h.open_vote(1), h.phase(1)]
        self.assertEqual(h.run(calls)[2:], [[h.LAST_DAY + 90], [2, 0, 0, 0, h.LAST_DAY + 90, 0]])

    def test_no_such_case(self):
        for case in WRONG_CASES:
            self.assertEqual(h.last([h.petition(1), h.day(180), h.open_vote(case)]), [-6])


class Ballot(unittest.TestCase):
    def test_each_value(self):
        for v in (1, 2, 3):
            self.assertEqual(h.last(h.in_first_vote() + [h.ballot(1, 1, v)]), [0])

    def test_wrong_values(self):
        for v in (0, 4, -1, h.FAR, -h.FAR):
            calls = h.in_first_vote() + [h.ballot(1, 1, v), h.ballot(1, 1, 1)]
            self.assertEqual(h.run(calls)[-2:], [[-9], [0]])

    def test_no_such_case(self):
        for case in WRONG_CASES:
            self.assertEqual(h.last(h.in_first_vote() + [h.ballot(case, 1, 1)]), [-6])

    def test_on_the_closing_day_and_behind_it(self):
        self.assertEqual(h.last(h.in_first_vote() + [h.day(270), h.ballot(1, 1, 1)]), [0])
        self.assertEqual(h.last(h.in_first_vote() + [h.day(271), h.ballot(1, 1, 1)]), [-14])
        self.assertEqual(h.last(h.in_second_vote() + [h.day(361), h.ballot(1, 1, 1)]), [0])
        self.assertEqual(h.last(h.in_second_vote() + [h.day(362), h.ballot(1, 1, 1)]), [-14])

    def test_only_members_in_office(self):
        for member in (6, 0, -1, h.FAR, -h.FAR):
            self.assertEqual(h.last(h.in_first_vote() + [h.ballot(1, member, 1)]), [-6])

    def test_on_the_members_last_day_and_behind_it(self):
        begin = h.in_first_vote() + [h.seat(6, 200)]
        self.assertEqual(h.last(begin + [h.day(200), h.ballot(1, 6, 1)]), [0])
        self.assertEqual(h.last(begin + [h.day(201), h.ballot(1, 6, 1)]), [-6])

    def test_seated_after_the_vote_was_opened(self):
        self.assertEqual(h.last(h.in_first_vote() + [h.seat(6), h.ballot(1, 6, 1)]), [0])

    def test_one_each(self):
        calls = h.in_first_vote(3) + [h.ballot(1, 1, 2), h.ballot(1, 1, 1)] + h.cast([0, 1, 1]) + [h.close(1)]
        self.assertEqual(h.run(calls)[-5:], [[0], [-5], [0], [0], [5]])

    def test_a_refused_second_ballot_changes_nothing(self):
        calls = h.in_first_vote(3) + h.cast([2, 2, 1]) + [h.ballot(1, 1, 1), h.close(1)]
        self.assertEqual(h.run(calls)[-2:], [[-5], [6]])

    def test_one_each_also_when_seated_anew(self):
        calls = h.in_first_vote() + [h.ballot(1, 1, 1), h.leave(1), h.seat(1), h.ballot(1, 1, 2)]
        self.assertEqual(h.last(calls), [-5])

    def test_one_in_each_vote(self):
        self.assertEqual(h.last(h.in_second_vote() + [h.ballot(1, 1, 2)]), [0])

    def test_one_in_each_case(self):
        calls = h.in_first_vote() + [h.petition(2), h.day(360), h.open_vote(2), h.ballot(2, 1, 1)]
        self.assertEqual(h.last(calls), [0])
        calls = [h.seat(1), h.petition(1), h.petition(2), h.day(180), h.open_vote(1), h.open_vote(2)]
        self.assertEqual(h.run(calls + [h.ballot(1, 1, 1), h.ballot(2, 1, 1)])[-2:], [[0], [0]])

    def test_the_order_of_refusals(self):
        begin = h.in_first_vote() + [h.ballot(1, 1, 1), h.petition(2)]
        late = begin + [h.day(271)]
        self.assertEqual(h.last(late + [h.ballot(3, 9, 9)]), [-6])
        self.assertEqual(h.last(late + [h.ballot(2, 9, 9)]), [-13])
        self.assertEqual(h.last(late + [h.ballot(2, 1, 1)]), [-13])
        self.assertEqual(h.last(late + [h.ballot(1, 9, 9)]), [-14])
        self.assertEqual(h.last(late + [h.ballot(1, 2, 9)]), [-14])
        self.assertEqual(h.last(late + [h.ballot(1, 1, 1)]), [-14])
        self.assertEqual(h.last(begin + [h.ballot(1, 9, 9)]), [-6])
        self.assertEqual(h.last(begin + [h.leave(1), h.ballot(1, 1, 1)]), [-6])
        self.assertEqual(h.last(begin + [h.ballot(1, 1, 9)]), [-9])
        self.assertEqual(h.last(begin + [h.ballot(1, 1, 1)]), [-5])


class WhenToClose(unittest.TestCase):
    def test_no_such_case(self):
        for case in WRONG_CASES:
            self.assertEqual(h.last(h.in_first_vote() + [h.day(271), h.close(case)]), [-6])

    def test_on_the_closing_day_and_behind_it(self):
        begin = h.in_first_vote() + h.cast([1, 1, 1])
        self.assertEqual(h.run(begin + [h.day(270), h.close(1), h.phase(1)])[-2:], [[-14], [2, 0, 0, 0, 270, 0]])
        self.assertEqual(h.run(begin + [h.day(271), h.close(1), h.phase(1)])[-2:], [[5], [5, 0, 0, 0, 270, 0]])

    def test_all_have_cast_one(self):
        self.assertEqual(h.last(h.in_first_vote(3) + h.cast([1, 1]) + [h.close(1)]), [-14])
        self.assertEqual(h.last(h.in_first_vote(3) + h.cast([1, 1, 1]) + [h.close(1)]), [5])
        self.assertEqual(h.last(h.in_first_vote(4) + h.cast([1, 1, 1, 3]) + [h.close(1)]), [5])

    def test_only_those_in_office_are_waited_for(self):
        begin = h.in_first_vote(4) + h.cast([1, 1, 1])
        self.assertEqual(h.last(begin + [h.leave(4), h.close(1)]), [5])
        self.assertEqual(h.last(begin + [h.leave(3), h.close(1)]), [-14])
        self.assertEqual(h.last(begin + [h.leave(4), h.seat(9, 200), h.day(200), h.close(1)]), [-14])
        self.assertEqual(h.last(begin + [h.leave(4), h.seat(9, 200), h.day(201), h.close(1)]), [5])

    def test_as_many_ballots_as_members_is_not_enough(self):
        calls = h.in_first_vote(3) + h.cast([1, 1, 1]) + [h.leave(1), h.seat(4), h.close(1)]
        self.assertEqual(h.last(calls), [-14])

    def test_where_nobody_is_in_office_everybody_has(self):
        self.assertEqual(h.last(h.in_first_vote(0) + [h.close(1)]), [6])
        calls = h.in_first_vote(3) + h.cast([1, 1, 1]) + [h.leave(1), h.leave(2), h.leave(3), h.close(1)]
        self.assertEqual(h.last(calls), [5])

    def test_ballots_count_when_their_member_is_not_in_office_any_more(self):
        begin = h.in_first_vote(5) + h.cast([1, 1, 1, 2, 2]) + [h.leave(4), h.leave(5)]
        self.assertEqual(h.last(begin + [h.close(1)]), [3])

    def test_a_closed_vote_is_closed(self):
        calls = h.in_first_vote(3) + h.cast([1, 1, 1]) + [h.close(1), h.close(1), h.ballot(1, 1, 1)]
        self.assertEqual(h.run(calls)[-3:], [[5], [-13], [-13]])


def first_ends(votes):
    return h.last(h.in_first_vote(len(votes)) + h.cast(votes) + [h.day(271), h.close(1)])


def second_ends(votes, presiding=0, members=12):
    presides = [h.preside(presiding)] if presiding else []
    return h.last(h.in_second_vote(members) + presides + h.cast(votes) + [h.day(362), h.close(1)])


def first_rule(f, a):
    if f + a < 3:
        return 6
    if f >= 2 * a:
        return 5
    return 3 if f > a else 6


class FirstVote(unittest.TestCase):
    def test_fewer_than_3_for_and_against(self):
        for votes in ([], [1], [1, 1], [1, 2], [2, 2], [1, 1, 3], [1, 1, 3, 3, 3, 3]):
            self.assertEqual(first_ends(votes), [6], votes)

    def test_two_thirds_for(self):
        self.assertEqual(first_ends([1, 1, 2]), [5])
        self.assertEqual(first_ends([1, 1, 1, 1, 2, 2]), [5])
        self.assertEqual(first_ends([1, 1, 1, 1, 1, 1, 2, 2, 2]), [5])
        self.assertEqual(first_ends([1, 1, 1]), [5])

    def test_just_below_two_thirds(self):
        self.assertEqual(first_ends([1, 1, 1, 2, 2]), [3])
        self.assertEqual(first_ends([1, 1, 1, 1, 1, 2, 2, 2]), [3])

    def test_as_many_or_more_against(self):
        for votes in ([1, 1, 2, 2], [1, 2, 2], [2, 2, 2]):
            self.assertEqual(first_ends(votes), [6], votes)

    def test_neither_counts_on_no_side(self):
        self.assertEqual(first_ends([1, 1, 2, 3, 3, 3]), [5])
        self.assertEqual(first_ends([1, 1, 1, 2, 2, 3, 3]), [3])

    def test_whoever_presides_decides_nothing(self):
        calls = h.in_first_vote(4) + [h.preside(1)] + h.cast([1, 1, 2, 2]) + [h.close(1)]
        self.assertEqual(h.last(calls), [6])

    def test_all_small_numbers(self):
        for f in range(10):
            for a in range(10):
                self.assertEqual(first_ends([1] * f + [2] * a), [first_rule(f, a)], (f, a))


class SecondVote(unittest.TestCase):
    def test_fewer_than_3_for_and_against(self):
        for votes in ([], [1, 1], [1, 2], [1, 1, 3, 3]):
            self.assertEqual(second_ends(votes, presiding=1), [6], votes)

    def test_more_for_than_against(self):
        self.assertEqual(second_ends([1, 1, 2]), [5])
        self.assertEqual(second_ends([1, 1, 1, 2, 2]), [5])
        self.assertEqual(second_ends([1] * 6 + [2] * 5), [5])

    def test_more_against_than_for(self):
        self.assertEqual(second_ends([1, 2, 2], presiding=1), [6])
        self.assertEqual(second_ends([1] * 5 + [2] * 6, presiding=1), [6])

    def test_as_many_for_as_against(self):
        votes = [1, 1, 2, 2, 3]
        self.assertEqual(second_ends(votes), [6])
        self.assertEqual(second_ends(votes, presiding=1), [5])
        self.assertEqual(second_ends(votes, presiding=2), [5])
        self.assertEqual(second_ends(votes, presiding=3), [6])
        self.assertEqual(second_ends(votes, presiding=5), [6])
        self.assertEqual(second_ends(votes, presiding=6), [6])

    def test_only_the_ballot_in_this_vote(self):
        # Member 1 was for it in the first vote alone.
        self.assertEqual(second_ends([0, 1, 1, 2, 2], presiding=1), [6])
        self.assertEqual(second_ends([2, 1, 1, 2], presiding=1), [6])

    def test_whoever_presides_when_it_is_closed(self):
        calls = h.in_second_vote() + [h.preside(3)] + h.cast([1, 1, 2, 2, 3])
        self.assertEqual(h.last(calls + [h.close(1)]), [6])
        self.assertEqual(h.last(calls + [h.preside(1), h.close(1)]), [5])

    def test_somebody_new_may_have_to_vote_first(self):
        calls = h.in_second_vote() + h.cast([1, 1, 2, 2, 3]) + [h.seat(6), h.preside(6)]
        self.assertEqual(h.last(calls + [h.close(1)]), [-14])
        self.assertEqual(h.last(calls + [h.ballot(1, 6, 1), h.close(1)]), [5])

    def test_the_case_is_told_in_its_new_phase(self):
        calls = h.in_second_vote() + h.cast([1, 1, 1, 2, 2]) + [h.close(1), h.phase(1)]
        self.assertEqual(h.run(calls)[-2:], [[5], [5, 0, 0, 0, 361, 0]])


class Tally(unittest.TestCase):
    def test_no_such_case(self):
        for case in WRONG_CASES:
            self.assertEqual(h.last(h.in_first_vote() + [h.tally(case)]), [-6])

    def test_without_a_vote(self):
        self.assertEqual(h.last([h.petition(1), h.tally(1)]), [0, 0, 0, 0])
        self.assertEqual(h.last([h.petition(1), h.withdraw(1), h.tally(1)]), [0, 0, 0, 0])

    def test_for_against_and_neither(self):
        begin = h.in_first_vote(10)
        self.assertEqual(h.last(begin + [h.tally(1)]), [0, 0, 0, 0])
        self.assertEqual(h.last(begin + [h.ballot(1, 7, 1), h.tally(1)]), [0, 1, 0, 0])
        self.assertEqual(h.last(begin + [h.ballot(1, 7, 2), h.tally(1)]), [0, 0, 1, 0])
        self.assertEqual(h.last(begin + [h.ballot(1, 7, 3), h.tally(1)]), [0, 0, 0, 1])
        self.assertEqual(h.last(begin + h.cast([3, 1, 2, 1, 1, 2, 1, 0, 3, 3]) + [h.tally(1)]), [0, 4, 2, 3])

    def test_refused_ballots_do_not_count(self):
        calls = h.in_first_vote(3) + [h.ballot(1, 1, 1), h.ballot(1, 1, 2), h.ballot(1, 9, 1), h.ballot(1, 2, 4)]
        self.assertEqual(h.last(calls + [h.tally(1)]), [0, 1, 0, 0])
        self.assertEqual(h.last(calls + [h.day(271), h.ballot(1, 2, 1), h.tally(1)]), [0, 1, 0, 0])

    def test_ballots_count_when_their_member_is_not_in_office_any_more(self):
        calls = h.in_first_vote(3) + h.cast([1, 2, 3]) + [h.leave(1), h.leave(2), h.seat(2), h.leave(3), h.tally(1)]
        self.assertEqual(h.last(calls), [0, 1, 1, 1])

    def test_the_last_vote_is_told_when_it_is_closed(self):
        begin = h.in_first_vote() + h.cast([1, 1, 1, 2, 2]) + [h.close(1)]
        self.assertEqual(h.last(begin + [h.tally(1)]), [0, 3, 2, 0])
        self.assertEqual(h.last(begin + [h.withdraw(1), h.tally(1)]), [0, 3, 2, 0])
        begin = h.in_first_vote() + h.cast([1, 1, 1, 2, 3]) + [h.close(1)]
        self.assertEqual(h.last(begin + [h.tally(1)]), [0, 3, 1, 1])
        self.assertEqual(h.last(begin + [h.publish(1), h.tally(1)]), [0, 3, 1, 1])

    def test_the_second_vote_begins_without_ballots(self):
        self.assertEqual(h.last(h.in_second_vote() + [h.tally(1)]), [0, 0, 0, 0])
        self.assertEqual(h.last(h.in_second_vote() + [h.ballot(1, 4, 3), h.tally(1)]), [0, 0, 0, 1])
        self.assertEqual(h.last(h.in_second_vote() + [h.day(362), h.close(1), h.tally(1)]), [0, 0, 0, 0])

    def test_each_case_has_its_own(self):
        calls = [h.seat(1), h.petition(1), h.petition(2), h.day(180), h.open_vote(1), h.open_vote(2)]
        calls += [h.ballot(1, 1, 1), h.ballot(2, 1, 2), h.tally(1), h.tally(2)]
        self.assertEqual(h.run(calls)[-2:], [[0, 1, 0, 0], [0, 0, 1, 0]])


if __name__ == "__main__":
    unittest.main()
