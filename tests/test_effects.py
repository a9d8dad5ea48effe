"""What the rulings in force say: the calls status, over, typeAt, rejected, index, conserved."""

import itertools
import unittest

from tests import helper as h

END = h.LAST_DAY
WRONG_DAYS = (-1, h.LAST_DAY + 1, h.FAR, -h.FAR)
NO_NAMES = (0, -1, -5, h.LARGEST_KEY + 1, h.FAR, -h.FAR)


def ask(texts, *questions):
    """The answers to questions on rulings 1, 2 and so on, of days 180, 360 and so on."""
    return h.asked(h.with_rulings(texts), list(questions))


def tell(texts, question):
    return ask(texts, question)[0]


def ask_one_day(texts, *questions):
    """The answers to questions on rulings that are published on day 180 in the dict's order."""
    return h.asked(h.with_rulings_of_one_day(texts), list(questions))


class Status(unittest.TestCase):
    def test_none(self):
        self.assertEqual(h.last([h.status(0, 5)]), [0, 0, 0])
        self.assertEqual(tell(["suppress 5"], h.status(END, 6)), [0, 0, 0])

    def test_each_kind(self):
        told = ask(["suppress 5; suppress 6 wholly; restore 7"], *[h.status(END, n) for n in (5, 6, 7)])
        self.assertEqual(told, [[0, 1, 1], [0, 2, 1], [0, 0, 1]])

    def test_the_case_not_the_place(self):
        self.assertEqual(ask_one_day({40: "suppress 5", 30: "suppress 6 wholly"}, h.status(END, 5), h.status(END, 6)),
                         [[0, 1, 40], [0, 2, 30]])

    def test_the_day_of_publishing_and_the_day_before(self):
        questions = [h.status(d, 5) for d in (0, 179, 180, 359, 360, END)]
        self.assertEqual(ask(["suppress 5", "restore 5"], *questions),
                         [[0, 0, 0], [0, 0, 0], [0, 1, 1], [0, 1, 1], [0, 0, 2], [0, 0, 2]])

    def test_the_last_one_in_one_ruling(self):
        for words in itertools.permutations([("restore 5", 0), ("suppress 5", 1), ("suppress 5 wholly", 2)]):
            text = "; ".join([word for word, kind in words])
            self.assertEqual(tell([text], h.status(END, 5)), [0, words[-1][1], 1])

    def test_the_last_one_in_several_rulings(self):
        texts = ["suppress 5", "suppress 5 wholly", "restore 5", "suppress 5", "suppress 6"]
        questions = [h.status(180 * place, 5) for place in range(1, 6)]
        self.assertEqual(ask(texts, *questions), [[0, 1, 1], [0, 2, 2], [0, 0, 3], [0, 1, 4], [0, 1, 4]])

    def test_the_last_published_of_one_day(self):
        self.assertEqual(ask_one_day({1: "suppress 5", 2: "restore 5"}, h.status(180, 5)), [[0, 0, 2]])
        self.assertEqual(ask_one_day({2: "restore 5", 1: "suppress 5"}, h.status(180, 5)), [[0, 1, 1]])

    def test_annulled_and_annulled_again(self):
        texts = ["suppress 5", "restore 5", "annul 2", "annul 3", "annul 2; annul 1"]
        questions = [h.status(180 * place, 5) for place in range(1, 6)]
        self.assertEqual(ask(texts, *questions), [[0, 1, 1], [0, 0, 2], [0, 1, 1], [0, 0, 2], [0, 0, 0]])

    def test_other_kinds_say_nothing_of_it(self):
        text = "type 5 is 5; reject work 5; conserve 5 over 6"
        self.assertEqual(tell([text], h.status(END, 5)), [0, 0, 0])
        self.assertEqual(tell(["suppress 5; " + text], h.status(END, 5)), [0, 1, 1])
        self.assertEqual(tell(["suppress 1", "suppress 2", "annul 1"], h.status(END, 1)), [0, 0, 0])
        self.assertEqual(tell(["suppress 5", "suppress 1", "annul 1"], h.status(END, 1)), [0, 1, 2])

    def test_any_other_number_is_no_name(self):
        self.assertEqual(ask(["suppress 5; restore 1"], *[h.status(END, n) for n in NO_NAMES]), [[0, 0, 0]] * 6)

    def test_the_smallest_and_the_largest_name(self):
        text = "suppress 1; suppress 1000000000 wholly"
        self.assertEqual(ask([text], h.status(END, 1), h.status(END, h.LARGEST_KEY)), [[0, 1, 1], [0, 2, 1]])

    def test_days_that_are_none(self):
        for d in WRONG_DAYS:
            self.assertEqual(ask(["suppress 5"], h.status(d, 5), h.status(d, 0)), [[-9], [-9]])

    def test_a_case_that_is_no_ruling_says_nothing(self):
        for number in range(1, 8):
            self.assertEqual(h.last(h.in_phase(number) + [h.status(END, 5)]), [0, 0, 0])
        self.assertEqual(h.last(h.in_phase(8) + [h.status(END, 5)]), [0, 1, 1])


class Over(unittest.TestCase):
    def test_none(self):
        self.assertEqual(h.last([h.over(0, 5, 6)]), [0, 0, 0])
        questions = [h.over(END, 5, 7), h.over(END, 7, 6), h.over(END, 7, 8)]
        self.assertEqual(ask(["conserve 5 over 6"], *questions), [[0, 0, 0]] * 3)

    def test_either_order(self):
        self.assertEqual(ask(["conserve 5 over 6"], h.over(END, 5, 6), h.over(END, 6, 5)), [[0, 1, 1], [0, 2, 1]])
        self.assertEqual(ask(["conserve 6 over 5"], h.over(END, 5, 6), h.over(END, 6, 5)), [[0, 2, 1], [0, 1, 1]])

    def test_the_case_not_the_place(self):
        texts = {40: "conserve 5 over 6", 30: "conserve 6 over 7"}
        self.assertEqual(ask_one_day(texts, h.over(END, 5, 6), h.over(END, 7, 6)), [[0, 1, 40], [0, 2, 30]])

    def test_turned_round_by_a_later_ruling(self):
        texts = ["conserve 5 over 6", "conserve 6 over 5", "conserve 5 over 6"]
        questions = [h.over(d, 5, 6) for d in (0, 179, 180, 359, 360, 539, 540, END)]
        self.assertEqual(ask(texts, *questions), [
            [0, 0, 0], [0, 0, 0], [0, 1, 1], [0, 1, 1], [0, 2, 2], [0, 2, 2], [0, 1, 3], [0, 1, 3]])

    def test_the_last_one_in_one_ruling(self):
        text = "conserve 5 over 6; conserve 6 over 5; conserve 5 over 7"
        self.assertEqual(ask([text], h.over(END, 5, 6), h.over(END, 6, 5)), [[0, 2, 1], [0, 1, 1]])

    def test_annulled_and_annulled_again(self):
        texts = ["conserve 5 over 6", "conserve 6 over 5", "annul 2", "annul 3", "annul 1; annul 2"]
        questions = [h.over(180 * place, 5, 6) for place in range(1, 6)]
        self.assertEqual(ask(texts, *questions), [[0, 1, 1], [0, 2, 2], [0, 1, 1], [0, 2, 2], [0, 0, 0]])

    def test_nothing_goes_on_from_one_to_another(self):
        self.assertEqual(tell(["conserve 5 over 6; conserve 6 over 7"], h.over(END, 5, 7)), [0, 0, 0])

    def test_other_kinds_say_nothing_of_it(self):
        self.assertEqual(tell(["type 5 is 6; suppress 5; reject work 6"], h.over(END, 5, 6)), [0, 0, 0])
        # A proposal without an m has a 0 there, which is no name.
        self.assertEqual(ask(["suppress 5"], h.over(END, 5, 0), h.over(END, 0, 5)), [[0, 0, 0]] * 2)

    def test_the_same_name_twice(self):
        for n in (5, 7) + NO_NAMES:
            self.assertEqual(tell(["conserve 5 over 6"], h.over(END, n, n)), [-10])

    def test_the_day_is_looked_at_first(self):
        for d in WRONG_DAYS:
            self.assertEqual(ask(["conserve 5 over 6"], h.over(d, 5, 6), h.over(d, 5, 5)), [[-9], [-9]])

    def test_any_other_number_is_no_name(self):
        for n in NO_NAMES:
            self.assertEqual(ask(["conserve 5 over 6"], h.over(END, 5, n), h.over(END, n, 6)), [[0, 0, 0]] * 2)


class TypeAt(unittest.TestCase):
    def test_none(self):
        self.assertEqual(h.last([h.type_at(0, 5)]), [0, 0, 0])
        self.assertEqual(tell(["type 5 is 6"], h.type_at(END, 7)), [0, 0, 0])

    def test_its_m_and_its_case(self):
        self.assertEqual(tell(["type 5 is 6"], h.type_at(END, 5)), [0, 6, 1])
        self.assertEqual(tell(["type 5 is 5"], h.type_at(END, 5)), [0, 5, 1])
        self.assertEqual(ask_one_day({40: "type 5 is 6", 30: "type 7 is 1000000000"},
                                     h.type_at(END, 5), h.type_at(END, 7)), [[0, 6, 40], [0, h.LARGEST_KEY, 30]])

    def test_about_its_n_alone(self):
        self.assertEqual(tell(["type 5 is 6"], h.type_at(END, 6)), [0, 0, 0])

    def test_the_day_of_publishing_and_the_day_before(self):
        questions = [h.type_at(d, 5) for d in (0, 179, 180, 359, 360, END)]
        self.assertEqual(ask(["type 5 is 6", "type 5 is 7"], *questions),
                         [[0, 0, 0], [0, 0, 0], [0, 6, 1], [0, 6, 1], [0, 7, 2], [0, 7, 2]])

    def test_the_last_one_says_it(self):
        self.assertEqual(tell(["type 5 is 6; type 5 is 8; type 5 is 7; type 6 is 9"], h.type_at(END, 5)), [0, 7, 1])
        self.assertEqual(ask_one_day({2: "type 5 is 6", 1: "type 5 is 7"}, h.type_at(180, 5)), [[0, 7, 1]])

    def test_annulled_and_annulled_again(self):
        texts = ["type 5 is 6", "type 5 is 7", "annul 2", "annul 3", "annul 1; annul 2"]
        questions = [h.type_at(180 * place, 5) for place in range(1, 6)]
        self.assertEqual(ask(texts, *questions), [[0, 6, 1], [0, 7, 2], [0, 6, 1], [0, 7, 2], [0, 0, 0]])

    def test_other_kinds_say_nothing_of_it(self):
        text = "conserve 5 over 6; suppress 5; reject work 5; suppress 5 wholly; restore 5"
        self.assertEqual(tell([text], h.type_at(END, 5)), [0, 0, 0])
        self.assertEqual(tell(["type 5 is 8; " + text], h.type_at(END, 5)), [0, 8, 1])

    def test_days_that_are_none(self):
        for d in WRONG_DAYS:
            self.assertEqual(ask(["type 5 is 6"], h.type_at(d, 5), h.type_at(d, 0)), [[-9], [-9]])

    def test_any_other_number_is_no_name(self):
        self.assertEqual(ask(["type 5 is 6"], *[h.type_at(END, n) for n in NO_NAMES]), [[0, 0, 0]] * 6)


class Rejected(unittest.TestCase):
    def test_none(self):
        self.assertEqual(h.last([h.rejected(0, 5)]), [0, 0])
        self.assertEqual(tell(["reject work 5"], h.rejected(END, 6)), [0, 0])

    def test_its_case(self):
        self.assertEqual(tell(["reject work 5"], h.rejected(END, 5)), [0, 1])
        self.assertEqual(ask_one_day({40: "reject work 5", 30: "reject work 1000000000"}, h.rejected(END, 5),
                                     h.rejected(END, h.LARGEST_KEY)), [[0, 40], [0, 30]])

    def test_the_day_of_publishing_and_the_day_before(self):
        questions = [h.rejected(d, 5) for d in (0, 179, 180, 359, 360, END)]
        self.assertEqual(ask(["reject work 5", "reject work 5"], *questions),
                         [[0, 0], [0, 0], [0, 1], [0, 1], [0, 2], [0, 2]])

    def test_the_last_published_of_one_day(self):
        self.assertEqual(ask_one_day({2: "reject work 5", 1: "reject work 5"}, h.rejected(180, 5)), [[0, 1]])

    def test_annulled_and_annulled_again(self):
        texts = ["reject work 5", "reject work 5", "annul 2", "annul 3", "annul 1; annul 2"]
        questions = [h.rejected(180 * place, 5) for place in range(1, 6)]
        self.assertEqual(ask(texts, *questions), [[0, 1], [0, 2], [0, 1], [0, 2], [0, 0]])

    def test_other_kinds_say_nothing_of_it(self):
        text = "restore 5; suppress 5; suppress 5 wholly; conserve 5 over 6; type 5 is 5"
        self.assertEqual(tell([text], h.rejected(END, 5)), [0, 0])
        self.assertEqual(tell(["reject work 5; " + text], h.rejected(END, 5)), [0, 1])

    def test_days_that_are_none(self):
        for d in WRONG_DAYS:
            self.assertEqual(ask(["reject work 5"], h.rejected(d, 5), h.rejected(d, 0)), [[-9], [-9]])

    def test_any_other_number_is_no_work(self):
        self.assertEqual(ask(["reject work 5"], *[h.rejected(END, n) for n in NO_NAMES]), [[0, 0]] * 6)


class Index(unittest.TestCase):
    def test_none(self):
        self.assertEqual(h.last([h.index(0)]), [0])
        self.assertEqual(tell(["restore 5; conserve 5 over 6; type 5 is 6; reject work 5"], h.index()), [0])

    def test_by_rising_keys(self):
        text = "suppress 30; suppress 1000000000 wholly; suppress 4; suppress 100 wholly"
        self.assertEqual(tell([text], h.index()), [0, 4, 1, 1, 30, 1, 1, 100, 2, 1, h.LARGEST_KEY, 2, 1])

    def test_from_several_rulings(self):
        texts = {40: "suppress 9; suppress 3", 30: "suppress 5 wholly"}
        self.assertEqual(ask_one_day(texts, h.index(180)), [[0, 3, 1, 40, 5, 2, 30, 9, 1, 40]])

    def test_the_day_of_publishing_and_the_day_before(self):
        questions = [h.index(d) for d in (0, 179, 180, 359, 360, END)]
        self.assertEqual(ask(["suppress 5", "suppress 4"], *questions), [
            [0], [0], [0, 5, 1, 1], [0, 5, 1, 1], [0, 4, 1, 2, 5, 1, 1], [0, 4, 1, 2, 5, 1, 1]])

    def test_a_restore_behind_a_suppress(self):
        self.assertEqual(tell(["suppress 5; restore 5"], h.index()), [0])
        self.assertEqual(tell(["suppress 5; suppress 6", "restore 5"], h.index()), [0, 6, 1, 1])
        self.assertEqual(tell(["restore 5; suppress 5"], h.index()), [0, 5, 1, 1])
        self.assertEqual(tell(["suppress 5", "restore 5", "suppress 5"], h.index()), [0, 5, 1, 3])

    def test_a_suppress_wholly_behind_a_suppress(self):
        self.assertEqual(tell(["suppress 5; suppress 5 wholly"], h.index()), [0, 5, 2, 1])
        self.assertEqual(tell(["suppress 5", "suppress 5 wholly"], h.index()), [0, 5, 2, 2])
        self.assertEqual(tell(["suppress 5 wholly", "suppress 5"], h.index()), [0, 5, 1, 2])

    def test_what_is_not_in_force_any_more(self):
        texts = ["suppress 5; suppress 6", "restore 5", "annul 2", "annul 1", "annul 4"]
        questions = [h.index(180 * place) for place in range(1, 6)]
        self.assertEqual(ask(texts, *questions), [
            [0, 5, 1, 1, 6, 1, 1], [0, 6, 1, 1], [0, 5, 1, 1, 6, 1, 1], [0], [0, 5, 1, 1, 6, 1, 1]])

    def test_days_that_are_none(self):
        for d in WRONG_DAYS:
            self.assertEqual(tell(["suppress 5"], h.index(d)), [-9])

    def test_a_name_is_told_once(self):
        self.assertEqual(tell(["; ".join(["suppress 5"] * 6)], h.index()), [0, 5, 1, 1])

    def test_it_tells_what_status_tells(self):
        texts = ["suppress 3; suppress 1 wholly; restore 2", "restore 3; suppress 2; suppress 4", "annul 1; suppress 1",
                 "annul 3; suppress 6 wholly", "annul 2"]
        for d in (180, 360, 540, 720, 900):
            told = ask(texts, h.index(d), *[h.status(d, n) for n in range(1, 8)])
            expected = [0]
            for n, answer in enumerate(told[1:], start=1):
                if answer[1] in (1, 2):
                    expected += [n] + answer[1:]
            self.assertEqual(told[0], expected, d)


class Conserved(unittest.TestCase):
    def test_none(self):
        self.assertEqual(h.last([h.conserved(0)]), [0])
        self.assertEqual(tell(["restore 5; suppress 5; suppress 6 wholly; type 5 is 6; reject work 5"], h.conserved()),
                         [0])

    def test_in_the_order_of_effects(self):
        text = "conserve 9 over 2; suppress 5; conserve 1 over 7; conserve 4 over 3"
        self.assertEqual(tell([text], h.conserved()), [0, 9, 2, 1, 1, 7, 1, 4, 3, 1])
        texts = {40: "conserve 9 over 2", 30: "conserve 1 over 7; conserve 2 over 8"}
        self.assertEqual(ask_one_day(texts, h.conserved(180)), [[0, 9, 2, 40, 1, 7, 30, 2, 8, 30]])

    def test_the_day_of_publishing_and_the_day_before(self):
        questions = [h.conserved(d) for d in (0, 179, 180, 359, 360, END)]
        self.assertEqual(ask(["conserve 5 over 6", "conserve 3 over 4"], *questions), [
            [0], [0], [0, 5, 6, 1], [0, 5, 6, 1], [0, 5, 6, 1, 3, 4, 2], [0, 5, 6, 1, 3, 4, 2]])

    def test_only_the_last_one_on_the_same_two_names(self):
        self.assertEqual(tell(["conserve 5 over 6", "conserve 5 over 6"], h.conserved()), [0, 5, 6, 2])
        self.assertEqual(tell(["conserve 5 over 6", "conserve 6 over 5"], h.conserved()), [0, 6, 5, 2])
        self.assertEqual(tell(["conserve 6 over 5", "conserve 5 over 6"], h.conserved()), [0, 5, 6, 2])

    def test_the_last_one_in_one_ruling(self):
        text = "conserve 5 over 6; conserve 1 over 2; conserve 6 over 5; conserve 6 over 5"
        self.assertEqual(tell([text], h.conserved()), [0, 1, 2, 1, 6, 5, 1])

    def test_the_last_one_stands_at_its_own_place(self):
        texts = ["conserve 5 over 6; conserve 1 over 2", "conserve 8 over 9", "conserve 6 over 5"]
        self.assertEqual(tell(texts, h.conserved()), [0, 1, 2, 1, 8, 9, 2, 6, 5, 3])

    def test_one_name_in_common_is_not_the_same_two(self):
        text = "conserve 5 over 6; conserve 5 over 7; conserve 6 over 7"
        self.assertEqual(tell([text], h.conserved()), [0, 5, 6, 1, 5, 7, 1, 6, 7, 1])

    def test_other_kinds_behind_it_do_not_count(self):
        text = "conserve 5 over 6; type 5 is 6; type 6 is 5; suppress 5; restore 6"
        self.assertEqual(tell([text], h.conserved()), [0, 5, 6, 1])

    def test_what_is_not_in_force_any_more(self):
        texts = ["conserve 5 over 6; conserve 1 over 2", "conserve 6 over 5", "annul 2", "annul 1", "annul 3"]
        questions = [h.conserved(180 * place) for place in range(1, 6)]
        self.assertEqual(ask(texts, *questions), [
            [0, 5, 6, 1, 1, 2, 1], [0, 1, 2, 1, 6, 5, 2], [0, 5, 6, 1, 1, 2, 1], [0], [0, 6, 5, 2]])

    def test_days_that_are_none(self):
        for d in WRONG_DAYS:
            self.assertEqual(tell(["conserve 5 over 6"], h.conserved(d)), [-9])

    def test_the_largest_names(self):
        text = "conserve 1000000000 over 1"
        self.assertEqual(tell([text], h.conserved()), [0, h.LARGEST_KEY, 1, 1])


if __name__ == "__main__":
    unittest.main()
