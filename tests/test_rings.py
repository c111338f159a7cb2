import unittest

from parkrow.errors import BadWishes, TooMany
from parkrow.rings import ring, turned, turning
from plain import HUGE, NO_LISTS, NO_NUMBERS, all_wishes, is_full, plain_ring

MOST = 1000000


class Ring(unittest.TestCase):
    def test_as_many_cars_as_places(self):
        self.assertEqual(ring(3, [2, 2, 2]), [2, 0, 1])
        self.assertEqual(ring(4, [3, 0, 3, 3]), [3, 0, 1, 2])
        self.assertEqual(ring(4, [1, 1, 0, 0]), [1, 2, 0, 3])

    def test_fewer_cars_than_places(self):
        self.assertEqual(ring(5, [4, 4]), [4, 0])
        self.assertEqual(ring(5, [3, 3, 3]), [3, 4, 0])
        self.assertEqual(ring(5, [0, 2, 2]), [0, 2, 3])

    def test_no_cars_and_one_place(self):
        self.assertEqual(ring(1, []), [])
        self.assertEqual(ring(7, []), [])
        self.assertEqual(ring(1, [0]), [0])

    def test_every_small_ring(self):
        for places in range(1, 6):
            for cars in range(places + 1):
                for wishes in all_wishes(places, cars):
                    self.assertEqual(ring(places, wishes), plain_ring(places, wishes))

    def test_the_most_places(self):
        self.assertEqual(ring(MOST, [999999, 999998, 999998, 999999]), [999999, 999998, 0, 1])

    def test_a_long_row_of_cars(self):
        cars = 200000
        self.assertTrue(ring(MOST, [900000] * cars) == list(range(900000, MOST)) + list(range(100000)))
        self.assertTrue(ring(cars, [cars - 1] * cars) == [cars - 1] + list(range(cars - 1)))

    def test_more_cars_than_places(self):
        for places, wishes in ((1, [0, 0]), (3, [0, 1, 2, 0]), (2, [1] * 9)):
            with self.subTest(places=places, wishes=wishes):
                self.assertRaises(TooMany, ring, places, wishes)

    def test_no_places(self):
        for places in (0, -1, MOST + 1, HUGE, -HUGE) + NO_NUMBERS:
            for wishes in ([], [0], [0, 0]):
                with self.subTest():
                    self.assertRaises(BadWishes, ring, places, wishes)

    def test_no_list(self):
        for wishes in NO_LISTS:
            with self.subTest(wishes=wishes):
                self.assertRaises(BadWishes, ring, 3, wishes)

    def test_no_place_of_the_ring(self):
        for wish in (-1, 3, 4, HUGE, -HUGE) + NO_NUMBERS:
            for wishes in ([wish], [wish, 0], [0, 2, wish]):
                with self.subTest():
                    self.assertRaises(BadWishes, ring, 3, wishes)

    def test_bad_wishes_come_ahead_of_too_many(self):
        for places, wishes in ((1, [0, 1]), (2, [0, 0, True]), (2, [False, 0, 0]), (1, [0, 0, -1]), (0, [0]), (1, (0, 0))):
            with self.subTest(places=places, wishes=wishes):
                self.assertRaises(BadWishes, ring, places, wishes)


class Turning(unittest.TestCase):
    def test_ordinary(self):
        self.assertEqual(turning([0, 0, 0]), 0)
        self.assertEqual(turning([3, 3, 3]), 1)
        self.assertEqual(turning([1, 1, 3]), 3)

    def test_edges(self):
        self.assertEqual(turning([]), 0)
        self.assertEqual(turning([0]), 0)
        self.assertEqual(turning([1]), 1)
        self.assertEqual(turning([200000] * 200000), 1)

    def test_the_most_cars(self):
        self.assertEqual(turning([MOST] * MOST), 1)

    def test_of_all_turnings_just_the_told_one_makes_full_wishes(self):
        for cars in range(6):
            for wishes in all_wishes(cars + 1, cars):
                full = [by for by in range(cars + 1) if is_full(turned(wishes, by))]
                self.assertEqual(full, [turning(wishes)])
                self.assertNotIn(cars, turned(wishes, full[0]))


class Turned(unittest.TestCase):
    def test_ordinary(self):
        self.assertEqual(turned([0, 3, 2], 1), [1, 0, 3])
        self.assertEqual(turned([1, 1, 0], 3), [0, 0, 3])

    def test_by_0(self):
        self.assertEqual(turned([0, 3, 2], 0), [0, 3, 2])

    def test_by_a_number_below_0(self):
        self.assertEqual(turned([0, 3, 2], -1), [3, 2, 1])
        self.assertEqual(turned([0, 3, 2], -6), [2, 1, 0])

    def test_by_a_number_far_beyond_the_ring(self):
        self.assertEqual(turned([0, 3, 2], 4), [0, 3, 2])
        self.assertEqual(turned([0, 3, 2], 4000000001), [1, 0, 3])
        self.assertEqual(turned([0, 3, 2], 4 * HUGE + 1), [1, 0, 3])
        self.assertEqual(turned([0, 3, 2], -4 * HUGE - 1), [3, 2, 1])

    def test_edges(self):
        self.assertEqual(turned([], 5), [])
        self.assertEqual(turned([1], 1), [0])

    def test_by_no_number(self):
        for by in NO_NUMBERS:
            for wishes in ([], [0], [1, 0]):
                with self.subTest(by=by, wishes=wishes):
                    self.assertRaises(BadWishes, turned, wishes, by)


class WishesOnOnePlaceMore(unittest.TestCase):
    def assert_refused(self, wishes):
        self.assertRaises(BadWishes, turning, wishes)
        self.assertRaises(BadWishes, turned, wishes, 1)
        self.assertRaises(BadWishes, turned, wishes, None)

    def test_no_list(self):
        for wishes in NO_LISTS:
            with self.subTest(wishes=wishes):
                self.assert_refused(wishes)

    def test_no_place_of_the_ring(self):
        for wish in (-1, 4, 5, HUGE, -HUGE) + NO_NUMBERS:
            for wishes in ([wish, 0, 0], [0, wish, 3], [3, 3, wish]):
                with self.subTest():
                    self.assert_refused(wishes)
        self.assert_refused([2])


class HandedInAndTold(unittest.TestCase):
    def test_what_is_handed_in_is_unchanged(self):
        wishes = [3, 1, 3]
        ring(4, wishes)
        turning(wishes)
        turned(wishes, 2)
        self.assertEqual(wishes, [3, 1, 3])
        self.assertRaises(BadWishes, turned, wishes, True)
        self.assertRaises(BadWishes, ring, 2, wishes)
        crowded = [1, 0, 1]
        self.assertRaises(TooMany, ring, 2, crowded)
        self.assertEqual((wishes, crowded), ([3, 1, 3], [1, 0, 1]))

    def test_a_told_list_is_new_each_time(self):
        for wishes in ([], [0], [1, 0, 2]):
            before = list(wishes)
            for tell in (lambda: ring(4, wishes), lambda: turned(wishes, 0)):
                told = tell()
                self.assertIs(type(told), list)
                self.assertEqual(told, before)
                told.append(9)
                self.assertEqual(wishes, before)
                self.assertEqual(tell(), before)

    def test_a_later_change_of_the_wishes_changes_no_told_list(self):
        wishes = [1, 0, 2]
        stood, around = ring(3, wishes), turned(wishes, 1)
        wishes[0] = 2
        wishes.append(0)
        self.assertEqual(stood, [1, 0, 2])
        self.assertEqual(around, [2, 1, 3])


if __name__ == "__main__":
    unittest.main()
