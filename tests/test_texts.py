import re
import unittest

from parkrow.errors import BadText, BadWishes
from parkrow.texts import read, written
from plain import HUGE, NO_LISTS, NO_NUMBERS, NO_TEXTS, small_streets

MOST = 1000000
NUMBER = "(?:0|[1-9][0-9]*)"

# The signs of texts, and some that look like figures or blanks but are none.
SIGNS = [chr(code) for code in range(32, 127)] + list("\t\n\0\r\x0b\x0c\x7f\u00a0\u00b2\u0663\u2003\uff13\U0001d7d1")


def plain_read(text):
    """The places and the wishes, None if the text is not written so."""
    if not re.fullmatch(f"{NUMBER}:(?: {NUMBER})*", text):
        return None
    places, *wishes = [int(figures) for figures in re.findall("[0-9]+", text)]
    if not 1 <= places <= MOST or any(wish >= places for wish in wishes):
        return None
    return places, wishes


def one_sign_other(text):
    told = [text[:at] + text[at + 1:] for at in range(len(text))]
    told += [text[:at] + sign + text[at:] for at in range(len(text) + 1) for sign in SIGNS]
    return told + [text[:at] + sign + text[at + 1:] for at in range(len(text)) for sign in SIGNS]


class Written(unittest.TestCase):
    def test_ordinary(self):
        self.assertEqual(written(5, [0, 3, 3]), "5: 0 3 3")
        self.assertEqual(written(12, [11, 0, 10]), "12: 11 0 10")

    def test_no_wishes_and_one(self):
        self.assertEqual(written(1, []), "1:")
        self.assertEqual(written(5, []), "5:")
        self.assertEqual(written(1, [0]), "1: 0")

    def test_more_cars_than_places(self):
        self.assertEqual(written(1, [0, 0, 0]), "1: 0 0 0")

    def test_the_greatest_street(self):
        self.assertEqual(written(MOST, [999999, 0]), "1000000: 999999 0")
        self.assertEqual(written(MOST, []), "1000000:")

    def test_no_places(self):
        for places in (0, -1, MOST + 1, HUGE, -HUGE) + NO_NUMBERS:
            for wishes in ([], [0]):
                with self.subTest():
                    self.assertRaises(BadWishes, written, places, wishes)

    def test_no_list(self):
        for wishes in NO_LISTS:
            with self.subTest(wishes=wishes):
                self.assertRaises(BadWishes, written, 3, wishes)

    def test_no_place_of_the_street(self):
        for wish in (-1, 3, 4, MOST, HUGE, -HUGE) + NO_NUMBERS:
            for wishes in ([wish], [wish, 0, 0], [0, wish, 1], [2, 2, 2, 2, wish]):
                with self.subTest():
                    self.assertRaises(BadWishes, written, 3, wishes)


class Read(unittest.TestCase):
    def assert_refused(self, text):
        with self.subTest(text=text if isinstance(text, str) and len(text) < 99 else None):
            self.assertRaises(BadText, read, text)

    def test_ordinary(self):
        self.assertEqual(read("5: 0 3 3"), (5, [0, 3, 3]))
        self.assertEqual(read("12: 11 0 10"), (12, [11, 0, 10]))

    def test_a_pair_with_a_list(self):
        told = read("5: 0 3 3")
        self.assertIs(type(told), tuple)
        self.assertEqual([type(one) for one in told], [int, list])

    def test_no_wishes_and_one(self):
        self.assertEqual(read("1:"), (1, []))
        self.assertEqual(read("1: 0"), (1, [0]))

    def test_the_greatest_street(self):
        self.assertEqual(read("1000000: 999999 0"), (MOST, [999999, 0]))
        self.assertEqual(read("1000000:"), (MOST, []))

    def test_of_what_is_written_it_is_what_was_written(self):
        for places, wishes in small_streets():
            self.assertEqual(read(written(places, wishes)), (places, wishes))
        for places, wishes in ((MOST, [999999, 10, 100000]), (MOST, list(range(0, MOST, 7))), (101, [0, 100, 9, 10])):
            self.assertEqual(read(written(places, wishes)), (places, wishes))

    def test_one_sign_put_in_left_out_or_changed(self):
        for text in ("5: 0 3 3", "1:", "1: 0", "12: 11 0 10", "1000000: 999999 0", "999999:", "10: 9"):
            for other in one_sign_other(text):
                told = plain_read(other)
                if told is None:
                    self.assert_refused(other)
                else:
                    self.assertEqual(read(other), told)
                    self.assertEqual(written(told[0], told[1]), other)

    def test_needless_noughts(self):
        for text in ("05: 0", "5: 00", "5: 03", "5: 0 3 03", "00:", "5: 00000000", "0000005: 0", "1000000: 0999999"):
            self.assert_refused(text)

    def test_signs_ahead_of_numbers(self):
        for text in ("+5: 0", "-5: 0", "5: +3", "5: -0", "5: -1", "5: 0 -3", "- 5: 0"):
            self.assert_refused(text)

    def test_blanks_and_line_feeds_at_the_ends(self):
        for text in (" 5: 0", "5: 0 ", "\n5: 0", "5: 0\n", "\t5: 0", "5: 0\t", "5: ", "5:\n", "5: 0\n\n", "5: 0\r\n"):
            self.assert_refused(text)

    def test_two_blanks_tabs_and_other_gaps(self):
        for text in ("5:  0", "5: 0  3", "5:\t0", "5: 0\t3", "5: 0\n3", "5 : 0", "5:0", "5:0 3", "5: 0,3", "5: 0, 3"):
            self.assert_refused(text)

    def test_no_colon_or_several(self):
        for text in ("5", "5 0 3 3", "5 ", "5:: 0", "5: 0:", "5: 0: 3", "5; 0", "5: :"):
            self.assert_refused(text)

    def test_no_places(self):
        for text in ("", " ", "\n", ":", ": 0", " : 0", "0:", "0: 0", "-1:", "x:", "5.0:", "1_0:", "0x5:", "1e3:"):
            self.assert_refused(text)

    def test_places_beyond_the_most(self):
        for text in ("1000001:", "1000001: 0", "2000000: 0", "9999999:", "10000000: 0", "1" + "0" * 5000 + ": 0"):
            self.assert_refused(text)

    def test_a_wish_that_is_no_place(self):
        for text in ("5: 5", "5: 0 3 5", "1: 1", "1000000: 1000000", "5: x", "5: 1.0", "5: 1_0", "50: 1_0", "5: True"):
            self.assert_refused(text)
        self.assert_refused("5: " + "1" * 5000)
        self.assert_refused("5: 0 " + "0" * 5000)

    def test_what_is_no_text(self):
        for text in NO_TEXTS:
            self.assert_refused(text)


if __name__ == "__main__":
    unittest.main()
