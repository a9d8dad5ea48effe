"""Petition texts: the calls read and show."""

import unittest

from tests import helper as h

LARGEST = str(h.LARGEST_KEY)


def read(text):
    return h.last([h.read(text)])


def shown(text):
    """The one form of a text, as the call show answers it."""
    answer = h.last([h.petition(1, text), h.show(1)])
    return (answer[0], "".join([chr(byte) for byte in answer[1:]]))


class Read(unittest.TestCase):
    def test_the_seven_kinds(self):
        self.assertEqual(read("restore 7"), [1, 0, 7, 0])
        self.assertEqual(read("suppress 7"), [1, 1, 7, 0])
        self.assertEqual(read("suppress 7 wholly"), [1, 2, 7, 0])
        self.assertEqual(read("conserve 7 over 8"), [1, 3, 7, 8])
        self.assertEqual(read("type 7 is 8"), [1, 4, 7, 8])
        self.assertEqual(read("reject work 7"), [1, 5, 7, 0])
        self.assertEqual(read("annul 7"), [1, 6, 7, 0])

    def test_proposals_in_the_order_of_the_text(self):
        self.assertEqual(
            read("annul 4; type 1 is 1;suppress 3 ;restore 2"),
            [4, 6, 4, 0, 4, 1, 1, 1, 3, 0, 0, 2, 0])

    def test_capital_or_small_is_the_same(self):
        self.assertEqual(read("SUPPRESS 7 Wholly"), [1, 2, 7, 0])
        self.assertEqual(read("tYPe 7 iS 8"), [1, 4, 7, 8])

    def test_blanks_mean_nothing(self):
        self.assertEqual(read("   conserve   7 over    8  ;  annul 2   "), [2, 3, 7, 8, 6, 2, 0])

    def test_words_and_numbers_without_blanks(self):
        self.assertEqual(read("conserve7over8;suppress9wholly;reject work1"), [3, 3, 7, 8, 2, 9, 0, 5, 1, 0])

    def test_a_word_or_a_number_goes_as_long_as_it_goes(self):
        for text in ("rejectwork 7", "sup press 7", "restore 7 8", "conserve 7 8", "typeis 7 8"):
            self.assertEqual(read(text), [-1])
        self.assertEqual(read("suppress 12345"), [1, 1, 12345, 0])

    def test_zeros_in_front_mean_nothing(self):
        self.assertEqual(read("suppress 0007"), [1, 1, 7, 0])
        self.assertEqual(read("suppress " + "0" * 280 + LARGEST), [1, 1, h.LARGEST_KEY, 0])

    def test_reading_makes_no_case(self):
        self.assertEqual(h.run([h.read("suppress 5"), h.phase(5), h.phase(1)])[1:], [[-6], [-6]])

    def test_reading_asks_for_no_ruling(self):
        self.assertEqual(read("annul 99"), [1, 6, 99, 0])


class WrongTexts(unittest.TestCase):
    def test_nothing_at_all(self):
        for text in ("", " ", "     "):
            self.assertEqual(read(text), [-1])

    def test_semicolons_with_nothing_beside_them(self):
        for text in (";", "suppress 5;", "suppress 5; ", ";suppress 5", "annul 1;;annul 2", "annul 1; ;annul 2"):
            self.assertEqual(read(text), [-1])

    def test_every_wrong_byte(self):
        good = h.as_bytes(" ;0123456789") + [ord(sign) for sign in "ABCDEFGHIJKLMNOPQRSTUVWXYZ"]
        good += [byte + 32 for byte in good[-26:]]
        for byte in range(256):
            text = h.as_bytes("suppress 5") + [byte]
            if byte == 32:
                self.assertEqual(read(text), [1, 1, 5, 0])
            elif 48 <= byte <= 57:
                self.assertEqual(read(text), [1, 1, 50 + byte - 48, 0])
            else:
                self.assertEqual(read(text), [-1])
            if byte not in good:
                self.assertEqual(read([byte] + h.as_bytes("suppress 5")), [-1])
                self.assertEqual(read(h.as_bytes("conserve 5") + [byte] + h.as_bytes("over 6")), [-1])

    def test_every_letter_may_stand_in_a_word_and_no_byte_beside_the_letters(self):
        for byte in (64, 91, 96, 123, 47, 58):
            text = h.as_bytes("suppress 5; annul 6")
            text[10] = byte
            self.assertEqual(read(text), [-1])
        for byte in (ord("s") + 128, ord("S") - 64, ord("s") - 64):
            self.assertEqual(read([byte] + h.as_bytes("uppress 5")), [-1])

    def test_words_of_another_kind(self):
        for text in ("restore 5 wholly", "annul work 5", "reject 5", "work 5", "conserve 5 is 6", "type 5 over 6",
                     "suppress 5 over 6", "wholly suppress 5", "suppress wholly 5", "over 5 conserve 6", "5 suppress",
                     "restore", "5", "wholly", "reject 5 work", "suppress 5 wholly wholly", "n", "suppress n",
                     "restores 5", "restor 5", "foo 5", "suppress suppress 5"):
            self.assertEqual(read(text), [-1], text)

    def test_a_missing_number(self):
        for text in ("restore", "suppress wholly", "conserve over 5", "conserve 5 over", "type is 5", "type 5 is",
                     "reject work", "annul", "conserve 5", "type 5"):
            self.assertEqual(read(text), [-1], text)

    def test_a_surplus_number(self):
        for text in ("restore 5 6", "suppress 5 6", "suppress 5 6 wholly", "suppress 5 wholly 6", "conserve 5 over 6 7",
                     "conserve 5 6 over 7", "type 5 is 6 7", "reject work 5 6", "annul 5 6", "5 annul 6"):
            self.assertEqual(read(text), [-1], text)

    def test_one_wrong_proposal_among_good_ones(self):
        for text in ("foo 1; annul 2", "annul 2; foo 1", "annul 2; foo 1; annul 3"):
            self.assertEqual(read(text), [-1])


class HowMany(unittest.TestCase):
    def test_six_and_seven(self):
        self.assertEqual(read("; ".join(["annul 5"] * 6)), [6] + [6, 5, 0] * 6)
        self.assertEqual(read("; ".join(["annul 5"] * 7)), [-3])
        self.assertEqual(read(";".join(["annul1"] * 40)), [-3])


class Numbers(unittest.TestCase):
    def test_the_smallest_and_the_largest(self):
        self.assertEqual(read("suppress 1"), [1, 1, 1, 0])
        self.assertEqual(read("suppress " + LARGEST), [1, 1, h.LARGEST_KEY, 0])
        self.assertEqual(read(f"conserve {LARGEST} over 1"), [1, 3, h.LARGEST_KEY, 1])
        self.assertEqual(read(f"conserve 1 over {LARGEST}"), [1, 3, 1, h.LARGEST_KEY])

    def test_beside_them(self):
        for number in ("0", "000", "1000000001", "9" * 280):
            for text in ("restore #", "suppress #", "suppress # wholly", "conserve # over 1", "conserve 1 over #",
                         "type # is 1", "type 1 is #", "reject work #", "annul #", "annul 1; annul #; annul 1"):
                self.assertEqual(read(text.replace("#", number)), [-2], (text, number))

    def test_over_itself(self):
        self.assertEqual(read("conserve 5 over 5"), [-10])
        self.assertEqual(read("conserve 5 over 005"), [-10])
        self.assertEqual(read("annul 1; conserve 5 over 5"), [-10])
        self.assertEqual(read("conserve 5 over 5; annul 1"), [-10])

    def test_a_name_may_be_its_own_m_elsewhere(self):
        self.assertEqual(read("type 5 is 5"), [1, 4, 5, 5])


class OrderOfRefusals(unittest.TestCase):
    def test_the_form_comes_first(self):
        self.assertEqual(read("; ".join(["annul 5"] * 7) + ";"), [-1])
        self.assertEqual(read("; ".join(["annul 5"] * 7) + "; foo 1"), [-1])
        self.assertEqual(read("; ".join(["annul 5"] * 7) + "!"), [-1])
        self.assertEqual(read("annul 0; foo 1"), [-1])
        self.assertEqual(read("conserve 5 over 5; foo 1"), [-1])

    def test_then_how_many(self):
        self.assertEqual(read("; ".join(["annul 0"] * 7)), [-3])
        self.assertEqual(read("; ".join(["conserve 5 over 5"] * 7)), [-3])

    def test_then_the_numbers(self):
        self.assertEqual(read("conserve 5 over 5; annul 0"), [-2])
        self.assertEqual(read("annul 0; conserve 5 over 5"), [-2])
        self.assertEqual(read("conserve 0 over 0"), [-2])
        self.assertEqual(read("conserve 1000000001 over 1000000001"), [-2])


class Show(unittest.TestCase):
    def test_the_one_form_of_each_kind(self):
        for text in ("restore 7", "suppress 7", "suppress 7 wholly", "conserve 7 over 8", "type 7 is 8",
                     "reject work 7", "type 7 is 7", f"conserve {LARGEST} over 1"):
            self.assertEqual(shown(text), (0, text))

    def test_an_annulment(self):
        calls = [h.seat(1), h.seat(2), h.seat(3)] + h.made_ruling(10)
        calls += [h.petition(2, "ANNUL010;annul 10"), h.show(2)]
        self.assertEqual(h.last(calls), [0] + h.as_bytes("annul 10; annul 10"))

    def test_other_writings(self):
        self.assertEqual(
            shown("  REJECT   work007;suppress 10WHOLLY ;Conserve1over2;  type 3is 04 ; restore 5;Suppress 6"),
            (0, "reject work 7; suppress 10 wholly; conserve 1 over 2; type 3 is 4; restore 5; suppress 6"))

    def test_what_is_shown_reads_the_same(self):
        text = "TYPE 3 IS 04;conserve 9 over 8"
        self.assertEqual(read(shown(text)[1]), read(text))

    def test_no_such_case(self):
        for case in (2, 0, -1, h.FAR, -h.FAR):
            self.assertEqual(h.last([h.petition(1), h.show(case)]), [-6])

    def test_in_whatever_phase(self):
        calls = [h.petition(1, "annul5"), h.petition(1, "Suppress5"), h.withdraw(1), h.show(1)]
        self.assertEqual(h.last(calls), [0] + h.as_bytes("suppress 5"))


if __name__ == "__main__":
    unittest.main()
