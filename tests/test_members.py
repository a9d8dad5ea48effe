"""The calls day, seat, leave, preside, office."""

import unittest

from tests import helper as h


class Day(unittest.TestCase):
    def test_goes_on_or_stays(self):
        self.assertEqual(h.run([h.day(0), h.day(4), h.day(4), h.day(9)]), [[0]] * 4)

    def test_the_first_and_the_last_day(self):
        self.assertEqual(h.run([h.day(0), h.day(h.LAST_DAY), h.day(h.LAST_DAY)]), [[0]] * 3)

    def test_out_of_range(self):
        for d in (-1, h.LAST_DAY + 1, h.FAR, -h.FAR):
            self.assertEqual(h.last([h.day(d)]), [-9])

    def test_out_of_range_is_told_ahead_of_going_back(self):
        self.assertEqual(h.run([h.day(5), h.day(-1), h.day(4)]), [[0], [-9], [-12]])

    def test_a_refusal_leaves_today(self):
        calls = [h.day(5), h.day(4), h.day(h.LAST_DAY + 1), h.petition(1), h.phase(1)]
        self.assertEqual(h.last(calls), [1, 5, 0, 5, 0, 0])

    def test_today_is_0_at_the_beginning(self):
        self.assertEqual(h.last([h.petition(1), h.phase(1)]), [1, 0, 0, 0, 0, 0])

    def test_a_refusal_ends_no_office(self):
        calls = [h.day(5), h.seat(1, 6), h.day(h.LAST_DAY + 1), h.leave(1)]
        self.assertEqual(h.last(calls), [0])


class Seat(unittest.TestCase):
    def test_keys_from_1_to_the_largest(self):
        self.assertEqual(h.run([h.seat(1), h.seat(h.LARGEST_KEY)]), [[0], [0]])

    def test_wrong_keys(self):
        for member in (0, -1, h.LARGEST_KEY + 1, h.FAR, -h.FAR):
            self.assertEqual(h.run([h.seat(member), h.leave(member)]), [[-4], [-6]])

    def test_last_days_from_0_to_the_largest(self):
        self.assertEqual(h.run([h.seat(1, 0), h.seat(2, h.LAST_DAY)]), [[0], [0]])

    def test_wrong_last_days(self):
        for last in (-1, h.LAST_DAY + 1, h.FAR, -h.FAR):
            self.assertEqual(h.run([h.seat(1, last), h.leave(1)]), [[-9], [-6]])

    def test_a_last_day_before_today(self):
        calls = [h.day(7), h.seat(1, 6), h.leave(1), h.seat(1, 7), h.leave(1)]
        self.assertEqual(h.run(calls), [[0], [-12], [-6], [0], [0]])

    def test_a_member_in_office(self):
        self.assertEqual(h.run([h.seat(1), h.seat(1), h.leave(1), h.seat(1)]), [[0], [-5], [0], [0]])

    def test_a_refused_seat_leaves_the_last_day(self):
        calls = [h.seat(1, 5), h.seat(1, 9), h.day(5), h.seat(1), h.day(6), h.leave(1)]
        self.assertEqual(h.run(calls), [[0], [-5], [0], [-5], [0], [-6]])

    def test_in_office_on_the_last_day_and_not_behind_it(self):
        calls = [h.seat(1, 5), h.day(5), h.seat(1, 5), h.preside(1), h.day(6), h.preside(1), h.seat(1, 6)]
        self.assertEqual(h.run(calls), [[0], [0], [-5], [0], [0], [-6], [0]])

    def test_30_members(self):
        calls = [h.seat(member) for member in range(1, 31)]
        self.assertEqual(h.run(calls + [h.seat(31), h.leave(31)]), [[0]] * 30 + [[-8], [-6]])
        self.assertEqual(h.run(calls + [h.leave(3), h.seat(31), h.seat(32)])[30:], [[0], [0], [-8]])

    def test_only_those_in_office_count_among_the_30(self):
        calls = [h.seat(member, 5) for member in range(1, 31)]
        later = [h.day(5), h.seat(31), h.day(6), h.seat(31)]
        self.assertEqual(h.run(calls + later)[30:], [[0], [-8], [0], [0]])
        more = [h.seat(member) for member in range(32, 62)]
        self.assertEqual(h.run(calls + later + more)[34:], [[0]] * 29 + [[-8]])

    def test_the_order_of_refusals(self):
        full = [h.seat(member) for member in range(1, 31)] + [h.day(7)]
        self.assertEqual(h.last(full + [h.seat(0, -1)]), [-4])
        self.assertEqual(h.last(full + [h.seat(0, 3)]), [-4])
        self.assertEqual(h.last(full + [h.seat(0)]), [-4])
        self.assertEqual(h.last(full + [h.seat(1, -1)]), [-9])
        self.assertEqual(h.last(full + [h.seat(31, h.LAST_DAY + 1)]), [-9])
        self.assertEqual(h.last(full + [h.seat(1, 6)]), [-12])
        self.assertEqual(h.last(full + [h.seat(31, 6)]), [-12])
        self.assertEqual(h.last(full + [h.seat(30)]), [-5])
        self.assertEqual(h.last(full + [h.seat(31)]), [-8])


class Leave(unittest.TestCase):
    def test_only_who_is_in_office(self):
        calls = [h.leave(1), h.seat(1), h.leave(2), h.leave(1), h.leave(1)]
        self.assertEqual(h.run(calls), [[-6], [0], [-6], [0], [-6]])

    def test_any_other_number_is_nobody(self):
        for member in (0, -1, h.FAR, -h.FAR):
            self.assertEqual(h.last([h.seat(1), h.leave(member)]), [-6])

    def test_behind_the_last_day(self):
        self.assertEqual(h.run([h.seat(1, 5), h.day(6), h.leave(1)]), [[0], [0], [-6]])

    def test_whoever_leaves_casts_no_ballot(self):
        self.assertEqual(h.last(h.in_first_vote() + [h.leave(2), h.ballot(1, 2, 1)]), [-6])


def tied(before_close):
    """What a second vote with 2 for (1, 2) and 2 against (3, 4) ends in."""
    calls = h.in_second_vote() + h.cast([1, 1, 2, 2, 3])
    return h.last(calls + before_close + [h.close(1)])


class Preside(unittest.TestCase):
    def test_only_who_is_in_office(self):
        calls = [h.preside(1), h.seat(1), h.preside(1), h.preside(1), h.leave(1), h.preside(1)]
        self.assertEqual(h.run(calls), [[-6], [0], [0], [0], [0], [-6]])

    def test_any_other_number_is_nobody(self):
        for member in (0, -1, h.FAR, -h.FAR):
            self.assertEqual(h.last([h.seat(1), h.preside(member)]), [-6])

    def test_nobody_else_presides(self):
        self.assertEqual(tied([]), [6])
        self.assertEqual(tied([h.preside(1)]), [5])
        self.assertEqual(tied([h.preside(3), h.preside(1)]), [5])
        self.assertEqual(tied([h.preside(1), h.preside(3)]), [6])

    def test_a_refusal_leaves_whoever_presides(self):
        self.assertEqual(tied([h.preside(1), h.preside(9)]), [5])

    def test_whoever_leaves_stops(self):
        self.assertEqual(tied([h.preside(1), h.leave(1)]), [6])
        self.assertEqual(tied([h.preside(1), h.leave(2)]), [5])
        self.assertEqual(tied([h.preside(2), h.leave(1)]), [5])

    def test_whoever_is_seated_anew_does_not_preside_again(self):
        self.assertEqual(tied([h.preside(1), h.leave(1), h.seat(1)]), [6])
        self.assertEqual(tied([h.preside(1), h.leave(1), h.seat(1), h.preside(1)]), [5])

    def test_the_last_day_ends_it(self):
        again = [h.leave(1), h.seat(1, 280), h.preside(1)]
        self.assertEqual(tied(again + [h.day(280)]), [5])
        self.assertEqual(tied(again + [h.day(281)]), [6])
        self.assertEqual(tied(again + [h.day(281), h.seat(1)]), [6])
        self.assertEqual(tied(again + [h.day(281), h.seat(1), h.preside(1)]), [5])

    def test_somebody_elses_last_day_does_not_end_it(self):
        self.assertEqual(tied([h.leave(2), h.seat(2, 280), h.preside(1), h.day(281)]), [5])


class Office(unittest.TestCase):
    def test_nobody_at_the_beginning(self):
        self.assertEqual(h.run([h.office(), h.day(5), h.office()]), [[0, 0], [0], [0, 0]])

    def test_by_rising_keys_with_their_last_days(self):
        calls = [h.seat(30, 9), h.seat(h.LARGEST_KEY, 0), h.seat(4, h.LAST_DAY), h.seat(100, 7), h.office()]
        self.assertEqual(h.last(calls), [0, 0, 4, h.LAST_DAY, 30, 9, 100, 7, h.LARGEST_KEY, 0])

    def test_who_presides_comes_first(self):
        begin = [h.seat(3), h.seat(2, 9), h.seat(8)]
        for member in (2, 3, 8):
            self.assertEqual(h.last(begin + [h.preside(member), h.office()])[:2], [0, member])
        calls = begin + [h.preside(8), h.preside(2), h.office()]
        self.assertEqual(h.last(calls), [0, 2, 2, 9, 3, h.LAST_DAY, 8, h.LAST_DAY])

    def test_whoever_leaves_is_told_no_more(self):
        begin = [h.seat(3, 7), h.seat(2, 9), h.preside(2)]
        self.assertEqual(h.last(begin + [h.leave(3), h.office()]), [0, 2, 2, 9])
        self.assertEqual(h.last(begin + [h.leave(2), h.office()]), [0, 0, 3, 7])
        self.assertEqual(h.last(begin + [h.leave(2), h.seat(2, 8), h.office()]), [0, 0, 2, 8, 3, 7])

    def test_on_the_last_day_and_behind_it(self):
        begin = [h.seat(3, 7), h.seat(2, 9), h.preside(3)]
        self.assertEqual(h.last(begin + [h.day(7), h.office()]), [0, 3, 2, 9, 3, 7])
        self.assertEqual(h.last(begin + [h.day(8), h.office()]), [0, 0, 2, 9])
        self.assertEqual(h.last(begin + [h.day(10), h.office()]), [0, 0])

    def test_seated_anew_behind_the_last_day(self):
        begin = [h.seat(3, 7), h.preside(3), h.day(8), h.seat(3, 8)]
        self.assertEqual(h.last(begin + [h.office()]), [0, 0, 3, 8])
        self.assertEqual(h.last(begin + [h.preside(3), h.office()]), [0, 3, 3, 8])

    def test_refusals_change_nothing(self):
        calls = [h.seat(3, 7), h.preside(3), h.seat(3, 9), h.seat(0), h.preside(4), h.leave(4), h.day(-1), h.office()]
        self.assertEqual(h.last(calls), [0, 3, 3, 7])

    def test_30_members(self):
        calls = [h.seat(member, member) for member in range(30, 0, -1)] + [h.seat(31), h.office()]
        told = [number for member in range(1, 31) for number in (member, member)]
        self.assertEqual(h.last(calls), [0, 0] + told)

    def test_asking_changes_nothing(self):
        self.assertEqual(h.run([h.seat(1, 5), h.preside(1), h.office(), h.office()])[2:], [[0, 1, 1, 5]] * 2)


if __name__ == "__main__":
    unittest.main()
