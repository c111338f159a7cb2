import unittest
from itertools import permutations

from parkrow.errors import BadWishes, TooMany
from parkrow.streets import Answer, Crowd, Parked, drives, driven_off, lucky, parked, taken
from plain import HUGE, NO_LISTS, NO_NUMBERS, all_wishes, is_full, plain_stands, small_streets

MOST = 1000000
OF_A_STREET = (parked, taken, driven_off, lucky)


def is_crowded(places, wishes, place):
    return len([wish for wish in wishes if wish >= place]) > places - place


class Answers(unittest.TestCase):
    def test_both_stand_straight_under_answer(self):
        self.assertEqual(Parked.__bases__, (Answer,))
        self.assertEqual(Crowd.__bases__, (Answer,))

    def test_fields(self):
        self.assertEqual(Parked([2, 0]).where, [2, 0])
        self.assertEqual(Parked(where=[]).where, [])
        self.assertEqual(Crowd(place=3).place, 3)

    def test_the_list_is_copied(self):
        where = [2, 0]
        answer = Parked(where)
        where.append(1)
        self.assertEqual(answer.where, [2, 0])
        answer.where.append(5)
        self.assertEqual(where, [2, 0, 1])

    def test_answers_share_no_list(self):
        where = [2, 0]
        one, other = Parked(where), Parked(where)
        one.where.append(1)
        self.assertEqual(other.where, [2, 0])


class ParkedOrCrowd(unittest.TestCase):
    def assert_parked(self, places, wishes, where):
        answer = parked(places, wishes)
        self.assertIs(type(answer), Parked)
        self.assertTrue(answer.where == where, (places, wishes[:9]))
        self.assertIs(type(answer.where), list)
        self.assertFalse(hasattr(answer, "place"))

    def assert_crowd(self, places, wishes):
        answer = parked(places, wishes)
        self.assertIs(type(answer), Crowd)
        self.assertIs(type(answer.place), int)
        self.assertIn(answer.place, range(places))
        self.assertTrue(is_crowded(places, wishes, answer.place))
        self.assertFalse(hasattr(answer, "where"))

    def test_no_cars(self):
        self.assert_parked(1, [], [])
        self.assert_parked(5, [], [])
        self.assert_parked(MOST, [], [])

    def test_one_place(self):
        self.assert_parked(1, [0], [0])
        self.assert_crowd(1, [0, 0])

    def test_fewer_cars_than_places(self):
        self.assert_parked(5, [0, 3, 3], [0, 3, 4])
        self.assert_parked(5, [2, 2, 1, 1], [2, 3, 1, 4])
        self.assert_crowd(5, [4, 4])
        self.assert_crowd(5, [3, 0, 3, 3])

    def test_as_many_cars_as_places(self):
        self.assert_parked(4, [0, 0, 0, 0], [0, 1, 2, 3])
        self.assert_parked(4, [3, 2, 1, 0], [3, 2, 1, 0])
        self.assert_parked(4, [2, 0, 0, 0], [2, 0, 1, 3])
        self.assert_crowd(4, [1, 1, 1, 1])

    def test_more_cars_than_places(self):
        self.assert_crowd(3, [0, 1, 2, 0])
        self.assert_crowd(3, [0] * 4)
        self.assert_crowd(2, [0] * 5000)

    def test_every_small_street(self):
        for places, wishes in small_streets():
            where = plain_stands(places, wishes)
            if None in where:
                self.assert_crowd(places, wishes)
            else:
                self.assert_parked(places, wishes, where)

    def test_wishes_near_one_another_far_out(self):
        self.assert_parked(MOST, [999998, 999997, 999997], [999998, 999997, 999999])
        self.assert_parked(MOST, [999990] * 10, list(range(999990, MOST)))
        self.assert_crowd(MOST, [999990] * 11)
        self.assert_crowd(MOST, [999999, 999999])

    def test_a_long_row_of_cars(self):
        cars = 200000
        self.assert_parked(MOST, [800000] * cars, list(range(800000, MOST)))
        self.assert_parked(MOST, list(range(cars)) + [0] * cars, list(range(2 * cars)))
        falling = list(range(cars - 1, -1, -1))
        self.assert_parked(cars + 1, falling + [0], falling + [cars])
        self.assert_crowd(MOST, [800000] * (cars + 1))

    def test_what_is_told_is_new_each_time(self):
        wishes = [0, 3, 3]
        parked(5, wishes).where.append(9)
        self.assertEqual(parked(5, wishes).where, [0, 3, 4])
        alone = [2]
        parked(5, alone).where.append(9)
        self.assertEqual(alone, [2])

    def test_an_answer_keeps_nothing_of_the_wishes(self):
        wishes = [0, 3, 3]
        answer = parked(5, wishes)
        wishes[0] = 1
        wishes.append(0)
        self.assertEqual(answer.where, [0, 3, 4])


class Taken(unittest.TestCase):
    def test_ordinary(self):
        self.assertEqual(taken(5, [3, 0, 3]), [0, 3, 4])
        self.assertEqual(taken(6, [4, 1, 1, 4]), [1, 2, 4, 5])
        self.assertEqual(taken(3, [2, 2, 1, 2]), [1, 2])

    def test_edges(self):
        self.assertEqual(taken(4, []), [])
        self.assertEqual(taken(1, [0]), [0])
        self.assertEqual(taken(1, [0, 0, 0]), [0])
        self.assertEqual(taken(MOST, [999999, 999998, 999998]), [999998, 999999])

    def test_every_small_street(self):
        for places, wishes in small_streets():
            stood = [place for place in plain_stands(places, wishes) if place is not None]
            self.assertEqual(taken(places, wishes), sorted(stood))

    def test_the_same_in_every_turn(self):
        for places, wishes in ((6, [4, 1, 1, 4]), (5, [3, 0, 3, 4, 1]), (5, [4, 3, 3, 0, 4])):
            told = {tuple(taken(places, list(turn))) for turn in permutations(wishes)}
            self.assertEqual(len(told), 1)

    def test_many_cars(self):
        self.assertTrue(taken(MOST, [800000] * 300000) == list(range(800000, MOST)))


class DrivenOff(unittest.TestCase):
    def test_ordinary(self):
        self.assertEqual(driven_off(5, [0, 3, 3]), [])
        self.assertEqual(driven_off(3, [2, 2, 0, 1, 0]), [1, 4])
        self.assertEqual(driven_off(4, [1, 3, 2, 2, 1, 0]), [3, 4])

    def test_edges(self):
        self.assertEqual(driven_off(4, []), [])
        self.assertEqual(driven_off(1, [0, 0, 0]), [1, 2])
        self.assertEqual(driven_off(MOST, [999999, 0, 999999, 999999]), [2, 3])

    def test_every_small_street(self):
        for places, wishes in small_streets():
            where = plain_stands(places, wishes)
            self.assertEqual(driven_off(places, wishes), [car for car in range(len(where)) if where[car] is None])

    def test_many_cars(self):
        self.assertTrue(driven_off(MOST, [800000] * 300000) == list(range(200000, 300000)))


class Lucky(unittest.TestCase):
    def test_ordinary(self):
        self.assertEqual(lucky(5, [0, 3, 3]), [0, 1])
        self.assertEqual(lucky(6, [2, 2, 3, 5]), [0, 3])
        self.assertEqual(lucky(3, [2, 2, 0, 1, 0]), [0, 2, 3])

    def test_edges(self):
        self.assertEqual(lucky(4, []), [])
        self.assertEqual(lucky(1, [0, 0, 0]), [0])
        self.assertEqual(lucky(MOST, [999999, 999999, 0, 999998]), [0, 2, 3])

    def test_every_small_street(self):
        for places, wishes in small_streets():
            where = plain_stands(places, wishes)
            self.assertEqual(lucky(places, wishes), [car for car in range(len(where)) if where[car] == wishes[car]])


class Drives(unittest.TestCase):
    def test_ordinary(self):
        self.assertEqual(drives([0, 0, 0]), 3)
        self.assertEqual(drives([1, 0, 1, 0]), 4)
        self.assertEqual(drives([3, 1, 0, 2]), 0)

    def test_edges(self):
        self.assertEqual(drives([]), 0)
        self.assertEqual(drives([0]), 0)
        self.assertEqual(drives([0] * 300000), 300000 * 299999 // 2)

    def test_all_small_wishes(self):
        for cars in range(6):
            for wishes in all_wishes(cars, cars):
                if is_full(wishes):
                    self.assertEqual(drives(wishes), sum(plain_stands(cars, wishes)) - sum(wishes))
                else:
                    self.assertRaises(TooMany, drives, wishes)

    def test_the_same_in_every_turn(self):
        for wishes in ([0, 0, 2, 1, 1], [0, 3, 0, 2, 2]):
            driven = sum(plain_stands(5, wishes)) - sum(wishes)
            self.assertEqual({drives(list(turn)) for turn in permutations(wishes)}, {driven})

    def test_not_full(self):
        for wishes in ([1, 1], [0, 2, 2], [1, 1, 2], [3, 3, 0, 0]):
            with self.subTest(wishes=wishes):
                self.assertRaises(TooMany, drives, wishes)

    def test_no_list(self):
        for wishes in NO_LISTS:
            with self.subTest(wishes=wishes):
                self.assertRaises(BadWishes, drives, wishes)

    def test_no_place_of_as_many(self):
        for wish in (-1, 3, 4, HUGE, -HUGE) + NO_NUMBERS:
            for wishes in ([wish, 0, 0], [0, wish, 1], [0, 1, wish]):
                with self.subTest():
                    self.assertRaises(BadWishes, drives, wishes)
        self.assertRaises(BadWishes, drives, [1])

    def test_bad_wishes_come_ahead_of_too_many(self):
        for wishes in ([2, 2, 3], [2, 2, -1], [2, 2, True], [False, 2, 2], [2, 2, "0"], [3, 3, 3]):
            with self.subTest(wishes=wishes):
                self.assertRaises(BadWishes, drives, wishes)


class Refusals(unittest.TestCase):
    def test_no_places(self):
        for places in (0, -1, -5, MOST + 1, HUGE, -HUGE) + NO_NUMBERS:
            for function in OF_A_STREET:
                for wishes in ([], [0]):
                    with self.subTest(function=function.__name__):
                        self.assertRaises(BadWishes, function, places, wishes)

    def test_the_most_places_are_some(self):
        self.assertEqual(taken(MOST, [999999]), [999999])
        self.assertEqual(lucky(MOST, [999999]), [0])
        self.assertEqual(driven_off(MOST, [999999]), [])

    def test_no_list(self):
        for wishes in NO_LISTS:
            for function in OF_A_STREET:
                with self.subTest(function=function.__name__, wishes=wishes):
                    self.assertRaises(BadWishes, function, 3, wishes)

    def test_no_place_of_the_street(self):
        for wish in (-1, 3, 4, MOST, HUGE, -HUGE) + NO_NUMBERS:
            for function in OF_A_STREET:
                for wishes in ([wish], [wish, 0, 0], [0, wish, 1], [2, 2, 2, 2, wish]):
                    with self.subTest(function=function.__name__):
                        self.assertRaises(BadWishes, function, 3, wishes)


class HandedInAndTold(unittest.TestCase):
    def test_what_is_handed_in_is_unchanged(self):
        for function in OF_A_STREET:
            for wishes in ([3, 0, 3], [], [4, 4, 4], [2]):
                before = list(wishes)
                function(5, wishes)
                self.assertEqual(wishes, before)
        wishes = [1, 0, 0]
        drives(wishes)
        self.assertEqual(wishes, [1, 0, 0])

    def test_what_is_refused_is_unchanged_too(self):
        wishes = [2, 2, True]
        for function in OF_A_STREET:
            self.assertRaises(BadWishes, function, 3, wishes)
        self.assertRaises(BadWishes, drives, wishes)
        self.assertIs(wishes[2], True)
        self.assertEqual(wishes[:2], [2, 2])
        crowded = [2, 1, 2]
        self.assertRaises(TooMany, drives, crowded)
        self.assertEqual(crowded, [2, 1, 2])

    def test_a_told_list_is_new_each_time(self):
        for function in (taken, driven_off, lucky):
            for wishes in ([0, 1, 2], [], [4, 4, 4]):
                told = function(5, wishes)
                self.assertIs(type(told), list)
                before, handed = list(told), list(wishes)
                told.append(7)
                self.assertEqual(wishes, handed)
                self.assertEqual(function(5, wishes), before)

    def test_a_later_change_of_the_wishes_changes_no_told_list(self):
        for function in (taken, driven_off, lucky):
            wishes = [0, 4, 4]
            told = function(5, wishes)
            before = list(told)
            wishes.insert(0, 1)
            self.assertEqual(told, before)


if __name__ == "__main__":
    unittest.main()
