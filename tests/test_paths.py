import unittest
from itertools import product

from parkrow.errors import BadPath, BadWishes, TooMany
from parkrow.paths import beneath, path, rising
from parkrow.streets import drives
from plain import HUGE, NO_LISTS, NO_NUMBERS, NO_TEXTS, all_full, all_wishes, is_full

OF_A_PATH = (beneath, rising)


def all_texts():
    return ["".join(signs) for length in range(11) for signs in product("ud", repeat=length)]


def height_at(text, end):
    return text[:end].count("u") - text[:end].count("d")


def is_path(text):
    return min(height_at(text, end) for end in range(len(text) + 1)) >= 0 and height_at(text, len(text)) == 0


class Path(unittest.TestCase):
    def test_the_empty_one(self):
        self.assertEqual(path([]), "")

    def test_one_car(self):
        self.assertEqual(path([0]), "ud")

    def test_rising_falling_and_equal_wishes(self):
        self.assertEqual(path([0, 1, 2]), "ududud")
        self.assertEqual(path([2, 1, 0]), "ududud")
        self.assertEqual(path([0, 0, 0]), "uuuddd")
        self.assertEqual(path([0, 0, 2]), "uuddud")
        self.assertEqual(path([1, 0, 1, 0]), "uuduuddd")
        self.assertEqual(path([0, 3, 0, 1]), "uududdud")

    def test_all_small_wishes(self):
        for cars in range(6):
            for wishes in all_full(cars):
                told = path(wishes)
                self.assertEqual(told, "".join("u" * wishes.count(place) + "d" for place in range(cars)))
                self.assertTrue(is_path(told))

    def test_many_cars(self):
        cars = 200000
        self.assertTrue(path([0] * cars) == "u" * cars + "d" * cars)
        self.assertTrue(path(list(range(cars))) == "ud" * cars)

    def test_not_full(self):
        for wishes in ([1, 1], [0, 2, 2], [1, 1, 2], [3, 3, 0, 0]):
            with self.subTest(wishes=wishes):
                self.assertRaises(TooMany, path, wishes)
        for wishes in all_wishes(4, 4):
            if not is_full(wishes):
                self.assertRaises(TooMany, path, wishes)

    def test_no_list(self):
        for wishes in NO_LISTS:
            with self.subTest(wishes=wishes):
                self.assertRaises(BadWishes, path, wishes)

    def test_no_place_of_as_many(self):
        for wish in (-1, 3, 4, HUGE, -HUGE) + NO_NUMBERS:
            for wishes in ([wish, 0, 0], [0, wish, 1], [0, 1, wish]):
                with self.subTest():
                    self.assertRaises(BadWishes, path, wishes)
        self.assertRaises(BadWishes, path, [1])
        self.assertRaises(BadWishes, path, [False])

    def test_bad_wishes_come_ahead_of_too_many(self):
        for wishes in ([2, 2, 3], [2, 2, -1], [2, 2, True], [False, 2, 2], [2, 2, "0"], [3, 3, 3]):
            with self.subTest(wishes=wishes):
                self.assertRaises(BadWishes, path, wishes)


class Beneath(unittest.TestCase):
    def test_the_empty_one(self):
        self.assertEqual(beneath(""), 0)

    def test_ordinary(self):
        self.assertEqual(beneath("ud"), 0)
        self.assertEqual(beneath("ududud"), 0)
        self.assertEqual(beneath("uudd"), 1)
        self.assertEqual(beneath("uuuddd"), 3)
        self.assertEqual(beneath("uududdud"), 2)

    def test_it_is_the_drives(self):
        for cars in range(6):
            for wishes in all_full(cars):
                self.assertEqual(beneath(path(wishes)), drives(wishes))

    def test_many_signs(self):
        self.assertEqual(beneath("u" * 200000 + "d" * 200000), 200000 * 199999 // 2)
        self.assertEqual(beneath("ud" * 200000), 0)


class Rising(unittest.TestCase):
    def test_the_empty_one(self):
        self.assertEqual(rising(""), [])

    def test_ordinary(self):
        self.assertEqual(rising("ud"), [0])
        self.assertEqual(rising("ududud"), [0, 1, 2])
        self.assertEqual(rising("uuuddd"), [0, 0, 0])
        self.assertEqual(rising("uududdud"), [0, 0, 1, 3])

    def test_of_the_path_of_wishes_it_tells_them_rising(self):
        for cars in range(6):
            for wishes in all_full(cars):
                self.assertEqual(rising(path(wishes)), sorted(wishes))

    def test_many_signs(self):
        self.assertTrue(rising("u" * 200000 + "d" * 200000) == [0] * 200000)
        self.assertTrue(rising("ud" * 200000) == list(range(200000)))


class WhatIsAPath(unittest.TestCase):
    def assert_refused(self, text):
        for function in OF_A_PATH:
            with self.subTest(function=function.__name__, text=text):
                self.assertRaises(BadPath, function, text)

    def test_every_short_text(self):
        for text in all_texts():
            if is_path(text):
                wishes = rising(text)
                self.assertEqual(wishes, sorted(wishes))
                self.assertEqual(path(wishes), text)
                ends = [end for end in range(1, len(text) + 1) if text[end - 1] == "d"]
                self.assertEqual(beneath(text), sum(height_at(text, end) for end in ends))
            else:
                for function in OF_A_PATH:
                    self.assertRaises(BadPath, function, text)

    def test_no_text(self):
        for text in NO_TEXTS:
            self.assert_refused(text)

    def test_another_sign(self):
        for sign in " \n\t.UDxa01\0\x7f\u00fc\uff55":
            for text in ("", "ud", "uudd", "udud"):
                for at in range(len(text) + 1):
                    self.assert_refused(text[:at] + sign + text[at:])
                for at in range(len(text)):
                    self.assert_refused(text[:at] + sign + text[at + 1:])

    def test_below_where_it_begins(self):
        for text in ("d", "du", "uddu", "ududdu", "uudddu", "dduu"):
            self.assert_refused(text)

    def test_an_end_above(self):
        for text in ("u", "uu", "uud", "udu", "uuddu"):
            self.assert_refused(text)


if __name__ == "__main__":
    unittest.main()
