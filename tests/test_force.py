"""Which rulings are in force: the calls rulings, inForce, because, check."""

import itertools
import unittest

from tests import helper as h

END = h.LAST_DAY
WRONG_DAYS = (-1, h.LAST_DAY + 1, h.FAR, -h.FAR)
NO_RULINGS = (9, 0, -1, h.FAR, -h.FAR)

CHAIN = ["suppress 5", "annul 1", "annul 2", "annul 3"]
# 2 and 3 annul 1, and 4 annuls both of them: 1 is in force, and 4 is reached twice from it.
TWICE = ["suppress 5", "annul 1", "annul 1", "annul 2; annul 3"]
# 2, 3, 4 and 5 annul 1, and 6 annuls 3 and 5: of the four, 2 and 4 are in force.
MANY = ["suppress 5", "annul 1", "annul 1", "annul 1", "annul 1", "annul 3; annul 5"]


def ask(texts, *questions):
    """The answers to questions on rulings 1, 2 and so on, of days 180, 360 and so on."""
    return h.asked(h.with_rulings(texts), list(questions))


def tell(texts, question):
    return ask(texts, question)[0]


class Rulings(unittest.TestCase):
    def test_none(self):
        self.assertEqual(h.last([h.rulings()]), [0])
        self.assertEqual(h.last([h.petition(1), h.rulings()]), [0])

    def test_only_published_cases(self):
        for number in range(1, 9):
            expected = [0, 1, 1] if number == 8 else [0]
            self.assertEqual(h.last(h.in_phase(number) + [h.rulings()]), expected)

    def test_the_day_of_publishing_and_the_day_before(self):
        days = (0, 179, 180, 181, 359, 360, END)
        told = ask(["suppress 5", "restore 5"], *[h.rulings(d) for d in days])
        self.assertEqual(told, [[0], [0], [0, 1, 1], [0, 1, 1], [0, 1, 1], [0, 1, 1, 2, 1], [0, 1, 1, 2, 1]])

    def test_days_that_are_none(self):
        for d in WRONG_DAYS:
            self.assertEqual(tell(CHAIN, h.rulings(d)), [-9])
            self.assertEqual(h.last([h.rulings(d)]), [-9])

    def test_day_0(self):
        # A petition waits for 180 days, so no ruling is of day 0.
        self.assertEqual(tell(CHAIN, h.rulings(0)), [0])

    def test_a_ruling_of_the_last_day(self):
        calls = [h.seat(1), h.seat(2), h.seat(3)] + h.made_ruling(1, today=END - 180)
        self.assertEqual(h.asked(calls, [h.rulings(END - 1), h.rulings(END)]), [[0], [0, 1, 1]])

    def test_in_the_order_of_publishing_not_of_keys(self):
        calls = h.with_rulings_of_one_day({20: "suppress 5", 3: "suppress 6", 11: "suppress 7"})
        self.assertEqual(h.asked(calls, [h.rulings(179), h.rulings(180)]), [[0], [0, 20, 1, 3, 1, 11, 1]])

    def test_annulled_and_annulled_again(self):
        days = (180, 360, 540, 720)
        self.assertEqual(ask(CHAIN, *[h.rulings(d) for d in days]), [
            [0, 1, 1], [0, 1, 0, 2, 1], [0, 1, 1, 2, 0, 3, 1], [0, 1, 0, 2, 1, 3, 0, 4, 1]])

    def test_one_day_ahead_of_the_annulment(self):
        self.assertEqual(ask(CHAIN, h.rulings(359), h.rulings(539)), [[0, 1, 1], [0, 1, 0, 2, 1]])

    def test_two_annul_one(self):
        texts = ["suppress 5", "annul 1", "annul 1", "annul 2"]
        self.assertEqual(tell(texts, h.rulings(540)), [0, 1, 0, 2, 1, 3, 1])
        self.assertEqual(tell(texts, h.rulings()), [0, 1, 0, 2, 0, 3, 1, 4, 1])
        self.assertEqual(tell(TWICE, h.rulings()), [0, 1, 1, 2, 0, 3, 0, 4, 1])

    def test_one_annuls_two(self):
        texts = ["suppress 5", "suppress 6", "suppress 7", "annul 1; annul 3"]
        self.assertEqual(tell(texts, h.rulings()), [0, 1, 0, 2, 1, 3, 0, 4, 1])

    def test_an_annulment_among_other_proposals(self):
        texts = ["suppress 1", "suppress 1; reject work 1; annul 1; restore 1"]
        self.assertEqual(tell(texts, h.rulings()), [0, 1, 0, 2, 1])

    def test_only_an_annulment_annuls(self):
        texts = ["suppress 1", "restore 1; suppress 1; suppress 1 wholly; conserve 1 over 2; type 1 is 1; reject work 1"]
        self.assertEqual(tell(texts, h.rulings()), [0, 1, 1, 2, 1])

    def test_a_petition_annuls_nothing_yet(self):
        calls = h.with_rulings(["suppress 5"]) + [h.petition(2, "annul 1"), h.rulings()]
        self.assertEqual(h.last(calls), [0, 1, 1])

    def test_a_ruling_that_is_not_in_force_can_be_annulled(self):
        texts = ["suppress 5", "annul 1", "annul 1", "annul 3"]
        self.assertEqual(tell(texts, h.rulings()), [0, 1, 0, 2, 1, 3, 0, 4, 1])


class InForce(unittest.TestCase):
    def test_each_day_of_a_chain(self):
        for case in range(1, 5):
            questions = [h.in_force(d, case) for d in (180 * case, 180 * case + 179, 180 * case + 180, END)]
            told = ask(CHAIN, *questions)
            self.assertEqual(told, [[1], [1], [1 if case == 4 else 0], [case % 2 ^ 1]])

    def test_the_day_before_publishing(self):
        questions = [h.in_force(179, 1), h.in_force(180, 1), h.in_force(359, 2), h.in_force(360, 2)]
        self.assertEqual(ask(["suppress 5", "restore 5"], *questions), [[-6], [1], [-6], [1]])

    def test_what_is_no_ruling(self):
        for case in NO_RULINGS:
            self.assertEqual(tell(CHAIN, h.in_force(END, case)), [-6])
        for number in range(1, 8):
            self.assertEqual(h.last(h.in_phase(number) + [h.in_force(END, 1)]), [-6])

    def test_the_day_is_looked_at_first(self):
        for d in WRONG_DAYS:
            self.assertEqual(ask(CHAIN, h.in_force(d, 1), h.in_force(d, 9)), [[-9], [-9]])

    def test_the_first_and_the_last_day(self):
        self.assertEqual(ask(["suppress 5"], h.in_force(0, 1), h.in_force(END, 1)), [[-6], [1]])


class Because(unittest.TestCase):
    def test_what_nothing_annuls(self):
        self.assertEqual(tell(["suppress 5", "suppress 6"], h.because(END, 1)), [0, 1, 1])
        self.assertEqual(tell(["suppress 5", "suppress 6"], h.because(END, 2)), [0, 2, 1])

    def test_a_chain(self):
        self.assertEqual(ask(CHAIN, *[h.because(END, case) for case in (1, 2, 3, 4)]), [
            [0, 1, 0, 2, 1, 3, 0, 4, 1], [0, 2, 1, 3, 0, 4, 1], [0, 3, 0, 4, 1], [0, 4, 1]])

    def test_only_what_is_published_by_then(self):
        self.assertEqual(ask(CHAIN, *[h.because(d, 1) for d in (180, 359, 360, 539, 540, 719, 720)]), [
            [0, 1, 1], [0, 1, 1], [0, 1, 0, 2, 1], [0, 1, 0, 2, 1],
            [0, 1, 1, 2, 0, 3, 1], [0, 1, 1, 2, 0, 3, 1], [0, 1, 0, 2, 1, 3, 0, 4, 1]])

    def test_what_is_reached_twice_is_told_once(self):
        self.assertEqual(tell(TWICE, h.because(END, 1)), [0, 1, 1, 2, 0, 3, 0, 4, 1])

    def test_of_several_in_force_the_one_published_last(self):
        self.assertEqual(tell(MANY, h.because(360, 1)), [0, 1, 0, 2, 1])
        self.assertEqual(tell(MANY, h.because(540, 1)), [0, 1, 0, 3, 1])
        self.assertEqual(tell(MANY, h.because(900, 1)), [0, 1, 0, 5, 1])
        self.assertEqual(tell(MANY, h.because(END, 1)), [0, 1, 0, 4, 1])

    def test_only_one_in_force(self):
        texts = ["suppress 5", "annul 1", "annul 1", "annul 1", "annul 3; annul 4"]
        self.assertEqual(tell(texts, h.because(END, 1)), [0, 1, 0, 2, 1])

    def test_published_last_not_the_largest_key(self):
        calls = h.with_rulings(["suppress 5"])
        calls += h.made_ruling(30, "annul 1", 180) + h.made_ruling(20, "annul 1", 360)
        calls += h.made_ruling(10, "annul 20", 540)
        self.assertEqual(h.asked(calls, [h.because(540, 1), h.because(720, 1), h.because(720, 20)]), [
            [0, 1, 0, 20, 1], [0, 1, 0, 30, 1], [0, 20, 0, 10, 1]])

    def test_all_that_annul_one_in_force_and_one_for_each_of_them(self):
        texts = ["suppress 5", "annul 1", "annul 1", "annul 2", "annul 2; annul 3", "annul 4", "suppress 6"]
        self.assertEqual(tell(texts, h.because(END, 1)), [0, 1, 1, 2, 0, 3, 0, 5, 1])

    def test_told_in_the_order_of_publishing(self):
        texts = ["suppress 5", "annul 1", "annul 1", "annul 3", "annul 2"]
        self.assertEqual(tell(texts, h.because(END, 1)), [0, 1, 1, 2, 0, 3, 0, 4, 1, 5, 1])

    def test_what_the_ruling_itself_annuls_is_not_told(self):
        self.assertEqual(tell(["suppress 5", "annul 1"], h.because(END, 2)), [0, 2, 1])

    def test_what_is_no_ruling(self):
        for case in NO_RULINGS:
            self.assertEqual(tell(CHAIN, h.because(END, case)), [-6])
        for number in range(1, 8):
            self.assertEqual(h.last(h.in_phase(number) + [h.because(END, 1)]), [-6])
        self.assertEqual(ask(CHAIN, h.because(0, 1), h.because(179, 1), h.because(359, 2)), [[-6]] * 3)

    def test_the_day_is_looked_at_first(self):
        for d in WRONG_DAYS:
            self.assertEqual(ask(CHAIN, h.because(d, 1), h.because(d, 9)), [[-9], [-9]])


class Check(unittest.TestCase):
    def test_what_nothing_annuls(self):
        self.assertEqual(ask(["suppress 5"], h.check(END, 1, 1, [1, 1]), h.check(END, 1, 0, [1, 0])), [[1], [0]])

    def test_a_chain(self):
        whole = [1, 0, 2, 1, 3, 0, 4, 1]
        self.assertEqual(tell(CHAIN, h.check(END, 1, 0, whole)), [1])
        self.assertEqual(tell(CHAIN, h.check(END, 3, 0, whole)), [1])
        self.assertEqual(tell(CHAIN, h.check(END, 3, 0, whole[4:])), [1])
        self.assertEqual(tell(CHAIN, h.check(END, 1, 1, [1, 1, 2, 0, 3, 1, 4, 0])), [0])

    def test_pairs_in_any_order(self):
        for pairs in itertools.permutations([(1, 0), (2, 1), (3, 0), (4, 1)]):
            self.assertEqual(tell(CHAIN, h.check(END, 1, 0, h.joined(pairs))), [1])

    def test_an_empty_list(self):
        self.assertEqual(ask(CHAIN, h.check(END, 4, 1, []), h.check(END, 4, 0, [])), [[0], [0]])

    def test_an_odd_number_of_numbers(self):
        for row in ([4], [4, 1, 3], [4, 1, 4], [4, 1, 0], [3, 4, 1], [4, 1, 3, 0, 2]):
            self.assertEqual(tell(CHAIN, h.check(END, 4, 1, row)), [0])

    def test_a_key_twice(self):
        for row in ([4, 1, 4, 1], [4, 1, 4, 0], [4, 0, 4, 1], [4, 1, 3, 0, 3, 0]):
            self.assertEqual(tell(CHAIN, h.check(END, 4, 1, row)), [0])
        self.assertEqual(tell(CHAIN, h.check(END, 4, 1, [4, 1, 3, 0])), [1])

    def test_the_case_is_not_among_the_pairs(self):
        self.assertEqual(tell(CHAIN, h.check(END, 3, 0, [4, 1])), [0])
        self.assertEqual(tell(["suppress 5", "suppress 6"], h.check(END, 1, 1, [2, 1])), [0])

    def test_the_case_with_another_v(self):
        for v in (0, 2, -1, 4, h.FAR, -h.FAR):
            self.assertEqual(tell(CHAIN, h.check(END, 4, v, [4, 1])), [0])
        for v in (1, 2, -1):
            self.assertEqual(tell(CHAIN, h.check(END, 3, v, [3, 0, 4, 1])), [0])

    def test_a_key_that_is_no_ruling(self):
        for key in NO_RULINGS:
            for number in (0, 1):
                self.assertEqual(tell(CHAIN, h.check(END, 4, 1, [4, 1, key, number])), [0])
                self.assertEqual(tell(CHAIN, h.check(END, 4, 1, [key, number, 4, 1])), [0])

    def test_a_key_that_is_no_ruling_yet(self):
        texts = ["suppress 5", "suppress 6"]
        self.assertEqual(ask(texts, h.check(359, 1, 1, [1, 1, 2, 1]), h.check(360, 1, 1, [1, 1, 2, 1])), [[0], [1]])

    def test_a_number_that_is_neither_0_nor_1(self):
        for number in (2, -1, 3, h.FAR, -h.FAR):
            self.assertEqual(tell(CHAIN, h.check(END, 4, number, [4, number])), [0])
            self.assertEqual(tell(CHAIN, h.check(END, 4, 1, [4, 1, 3, number])), [0])
            self.assertEqual(tell(CHAIN, h.check(END, 1, 0, [1, 0, 2, 1, 3, number, 4, 1])), [0])

    def test_a_pair_that_lacks_what_annuls_it(self):
        self.assertEqual(tell(CHAIN, h.check(END, 1, 0, [1, 0])), [0])
        self.assertEqual(tell(CHAIN, h.check(END, 1, 0, [1, 0, 2, 1])), [0])
        self.assertEqual(tell(CHAIN, h.check(END, 1, 0, [1, 0, 2, 1, 3, 0])), [0])
        self.assertEqual(tell(CHAIN, h.check(END, 2, 1, [2, 1])), [0])

    def test_another_pair_lacks_what_annuls_it(self):
        texts = ["suppress 5", "annul 1", "suppress 6"]
        self.assertEqual(tell(texts, h.check(END, 3, 1, [3, 1, 1, 0])), [0])
        self.assertEqual(tell(texts, h.check(END, 3, 1, [3, 1, 1, 0, 2, 1])), [1])

    def test_each_of_those_that_annul_one_in_force(self):
        self.assertEqual(tell(TWICE, h.check(END, 1, 1, [1, 1, 2, 0, 3, 0, 4, 1])), [1])
        self.assertEqual(tell(TWICE, h.check(END, 1, 1, [1, 1, 2, 0, 4, 1])), [0])
        self.assertEqual(tell(TWICE, h.check(END, 1, 1, [1, 1, 3, 0, 4, 1])), [0])
        self.assertEqual(tell(TWICE, h.check(END, 1, 1, [1, 1, 2, 0, 3, 0])), [0])

    def test_some_one_of_those_that_annul_one_not_in_force(self):
        for later in (2, 4):
            self.assertEqual(tell(MANY, h.check(END, 1, 0, [1, 0, later, 1])), [1])
        for later in (3, 5, 6):
            self.assertEqual(tell(MANY, h.check(END, 1, 0, [1, 0, later, 1])), [0])
        self.assertEqual(tell(MANY, h.check(END, 1, 0, [1, 0, 3, 0, 6, 1])), [0])
        self.assertEqual(tell(MANY, h.check(END, 1, 0, [1, 0, 3, 0, 6, 1, 2, 1])), [1])

    def test_at_an_earlier_day(self):
        self.assertEqual(ask(CHAIN, h.check(359, 1, 1, [1, 1]), h.check(360, 1, 1, [1, 1])), [[1], [0]])
        self.assertEqual(ask(CHAIN, h.check(359, 1, 0, [1, 0, 2, 1]), h.check(360, 1, 0, [1, 0, 2, 1])), [[0], [1]])

    def test_what_is_no_ruling(self):
        for case in NO_RULINGS:
            self.assertEqual(ask(CHAIN, h.check(END, case, 1, [case, 1]), h.check(END, case, 1, [])), [[-6], [-6]])
        for number in range(1, 8):
            self.assertEqual(h.last(h.in_phase(number) + [h.check(END, 1, 1, [1, 1])]), [-6])
        self.assertEqual(ask(CHAIN, h.check(179, 1, 1, [1, 1]), h.check(0, 1, 1, [1])), [[-6], [-6]])

    def test_the_day_is_looked_at_first(self):
        for d in WRONG_DAYS:
            self.assertEqual(ask(CHAIN, h.check(d, 1, 1, [1, 1]), h.check(d, 9, 7, [1])), [[-9], [-9]])

    def test_the_longest_list(self):
        calls = h.with_rulings_of_one_day({case: "suppress 5" for case in range(1, 33)})
        row = h.joined([(case, 1) for case in range(1, 33)])
        longest = row + h.joined([(100 + place, 1) for place in range(8)])
        self.assertEqual(len(longest), 80)
        questions = [h.check(END, 7, 1, row), h.check(END, 7, 1, longest), h.in_force(END, 7)]
        self.assertEqual(h.asked(calls, questions), [[1], [0], [1]])


def all_graphs(count):
    """For each way in which rulings 1 to count may annul earlier ones: ruling to those that it annuls."""
    choices = []
    for case in range(1, count + 1):
        earlier = range(1, case)
        choices.append([those for size in range(case) for those in itertools.combinations(earlier, size)])
    return [dict(enumerate(graph, start=1)) for graph in itertools.product(*choices)]


def is_in_force(graph, published, case):
    return not any(case in graph[later] and is_in_force(graph, published, later) for later in published)


def expected_because(graph, published, case):
    told = []
    left = [case]
    while left:
        ruling = left.pop()
        if ruling in told:
            continue
        told.append(ruling)
        annulling = [later for later in published if ruling in graph[later]]
        if is_in_force(graph, published, ruling):
            left += annulling
        else:
            left.append(max(later for later in annulling if is_in_force(graph, published, later)))
    return [0] + h.joined([(ruling, int(is_in_force(graph, published, ruling))) for ruling in sorted(told)])


def expected_check(graph, published, case, v, pairs):
    def claimed(key, number):
        return (key, number) in pairs

    if not claimed(case, v):
        return [0]
    for key, number in pairs:
        annulling = [later for later in published if key in graph[later]]
        if key not in published:
            return [0]
        if number == 1 and not all(claimed(later, 0) for later in annulling):
            return [0]
        if number == 0 and not any(claimed(later, 1) for later in annulling):
            return [0]
    return [1]


def graph_calls(graph):
    return h.with_rulings(["; ".join(["restore 5"] + [f"annul {n}" for n in graph[case]]) for case in graph])


class EveryWayToAnnul(unittest.TestCase):
    """The calls beside the document's sentences, for all ways in which a few rulings may annul one another."""

    def test_in_force_and_because(self):
        for graph in all_graphs(5):
            questions = []
            expected = []
            for until in range(1, 6):
                published = range(1, until + 1)
                force = [(case, int(is_in_force(graph, published, case))) for case in published]
                questions.append(h.rulings(180 * until))
                expected.append([0] + h.joined(force))
                for case, number in force:
                    questions += [h.in_force(180 * until, case), h.because(180 * until, case)]
                    expected += [[number], expected_because(graph, published, case)]
            self.assertEqual(h.asked(graph_calls(graph), questions), expected, graph)

    def test_what_because_tells_stands_the_check(self):
        for graph in all_graphs(4):
            calls = graph_calls(graph)
            for case in range(1, 5):
                row = h.last(calls + [h.because(END, case)])[1:]
                v = h.last(calls + [h.in_force(END, case)])[0]
                self.assertEqual(h.last(calls + [h.check(END, case, v, row)]), [1], graph)
                self.assertEqual(h.last(calls + [h.check(END, case, 1 - v, row)]), [0], graph)

    def test_check(self):
        for graph in all_graphs(4):
            questions = []
            expected = []
            for claims in itertools.product((None, 0, 1), repeat=4):
                pairs = [(case, claim) for case, claim in enumerate(claims, start=1) if claim is not None]
                for d, case, v in ((720, 1, 0), (720, 1, 1), (720, 3, 0), (540, 2, 1), (540, 1, 0)):
                    questions.append(h.check(d, case, v, h.joined(pairs)))
                    expected.append(expected_check(graph, range(1, d // 180 + 1), case, v, pairs))
            self.assertEqual(h.asked(graph_calls(graph), questions), expected, graph)


class ALongChain(unittest.TestCase):
    def test_32_rulings_that_each_annul_the_one_before(self):
        calls = h.with_rulings(["suppress 5"] + [f"annul {case}" for case in range(1, 32)])
        whole = h.joined([(case, 1 - case % 2) for case in range(1, 33)])
        questions = [h.rulings(), h.because(END, 1), h.check(END, 1, 0, whole), h.check(END, 1, 0, whole[:-2])]
        self.assertEqual(h.asked(calls, questions), [[0] + whole, [0] + whole, [1], [0]])


if __name__ == "__main__":
    unittest.main()
