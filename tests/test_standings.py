import unittest
from itertools import permutations, product
from math import factorial

from parkrow.errors import BadStanding
from parkrow.standings import from_steps, how_many, reaches
from parkrow.streets import parked
from plain import HUGE, NO_LISTS, NO_NUMBERS, all_full, plain_stands


def standings_and_wishes(cars):
    """For each standing of so many cars all the wishes that lead to it, by letting the cars come."""
    led = {standing: [] for standing in permutations(range(cars))}
    for wishes in all_full(cars):
        where = plain_stands(cars, wishes)
        led[tuple(where.index(place) for place in range(cars))].append(wishes)
    return led


class Reaches(unittest.TestCase):
    def test_the_empty_standing(self):
        self.assertEqual(reaches([]), [])

    def test_one_car(self):
        self.assertEqual(reaches([0]), [0])

    def test_ordinary(self):
        self.assertEqual(reaches([0, 1, 2, 3]), [0, 0, 0, 0])
        self.assertEqual(reaches([3, 2, 1, 0]), [0, 1, 2, 3])
        self.assertEqual(reaches([1, 0, 2]), [0, 1, 0])
        self.assertEqual(reaches([2, 0, 1, 4, 3]), [0, 1, 1, 0, 4])
        self.assertEqual(reaches([4, 0, 2, 1, 3]), [0, 1, 1, 3, 1])

    def test_it_is_the_least_place_that_the_car_can_have_wished(self):
        for cars in range(6):
            for standing, led in standings_and_wishes(cars).items():
                least = [min(wishes[car] for wishes in led) for car in standing]
                self.assertEqual(reaches(list(standing)), least)

    def test_many_cars(self):
        cars = 200000
        self.assertTrue(reaches(list(range(cars))) == [0] * cars)
        self.assertTrue(reaches(list(range(cars - 1, -1, -1))) == list(range(cars)))
        falling_but_last = list(range(cars - 2, -1, -1)) + [cars - 1]
        self.assertTrue(reaches(falling_but_last) == list(range(cars - 1)) + [0])


class HowMany(unittest.TestCase):
    def test_the_empty_standing(self):
        self.assertEqual(how_many([]), 1)

    def test_one_car(self):
        self.assertEqual(how_many([0]), 1)

    def test_ordinary(self):
        self.assertEqual(how_many([0, 1, 2, 3]), 24)
        self.assertEqual(how_many([3, 2, 1, 0]), 1)
        self.assertEqual(how_many([2, 0, 1, 4, 3]), 8)

    def test_as_many_as_lead_to_it(self):
        for cars in range(6):
            for standing, led in standings_and_wishes(cars).items():
                self.assertEqual(how_many(list(standing)), len(led))

    def test_of_all_standings_together(self):
        for cars in range(1, 7):
            told = sum(how_many(list(standing)) for standing in permutations(range(cars)))
            self.assertEqual(told, (cars + 1) ** (cars - 1))

    def test_many_cars(self):
        for cars in (30, 31, 32, 33, 5000, 20001):
            self.assertTrue(how_many(list(range(cars))) == factorial(cars))
            self.assertTrue(how_many(list(range(cars - 1, -1, -1))) == 1)


class FromSteps(unittest.TestCase):
    def test_the_empty_standing(self):
        self.assertEqual(from_steps([], []), [])

    def test_one_car(self):
        self.assertEqual(from_steps([0], [0]), [0])

    def test_no_steps_at_all(self):
        self.assertEqual(from_steps([0, 1, 2], [0, 0, 0]), [0, 1, 2])
        self.assertEqual(from_steps([2, 0, 1, 4, 3], [0] * 5), [1, 2, 0, 4, 3])

    def test_the_whole_reach(self):
        self.assertEqual(from_steps([0, 1, 2], [0, 1, 2]), [0, 0, 0])
        self.assertEqual(from_steps([2, 0, 1, 4, 3], [0, 0, 1, 3, 0]), [1, 1, 0, 4, 0])

    def test_steps_are_told_by_places_and_wishes_by_cars(self):
        self.assertEqual(from_steps([1, 0, 2], [0, 0, 1]), [1, 0, 1])
        self.assertEqual(from_steps([2, 0, 1, 4, 3], [0, 0, 1, 2, 0]), [1, 1, 0, 4, 1])

    def test_just_the_wishes_that_lead_to_it(self):
        for cars in range(6):
            for standing, led in standings_and_wishes(cars).items():
                standing = list(standing)
                most = [place - reach for place, reach in enumerate(reaches(standing))]
                told = [from_steps(standing, list(steps)) for steps in product(*(range(one + 1) for one in most))]
                self.assertEqual(sorted(told), sorted(led))

    def test_the_car_at_each_place_drove_so_many_steps(self):
        for standing, steps in (([2, 0, 1, 4, 3], [0, 0, 1, 2, 0]), ([4, 0, 2, 1, 3], [0, 0, 1, 0, 2])):
            wishes = from_steps(standing, steps)
            where = parked(5, wishes).where
            self.assertEqual([where[car] for car in standing], [0, 1, 2, 3, 4])
            self.assertEqual([where[car] - wishes[car] for car in standing], steps)

    def test_one_beyond_a_reach_and_one_below_0(self):
        for cars in range(1, 6):
            for standing in permutations(range(cars)):
                standing = list(standing)
                for place, reach in enumerate(reaches(standing)):
                    for step in (-1, place - reach + 1):
                        steps = [0] * cars
                        steps[place] = step
                        self.assertRaises(BadStanding, from_steps, standing, steps)

    def test_many_cars(self):
        cars = 200000
        rising = list(range(cars))
        self.assertTrue(from_steps(rising, rising) == [0] * cars)
        self.assertTrue(from_steps(rising[::-1], [0] * cars) == rising[::-1])

    def test_steps_that_are_no_list(self):
        for steps in NO_LISTS + ("00", (0, 0), {0: 0, 1: 0}, range(2), b"00"):
            for standing in ([], [0], [1, 0]):
                with self.subTest(standing=standing, steps=steps):
                    self.assertRaises(BadStanding, from_steps, standing, steps)

    def test_too_few_or_too_many_steps(self):
        for standing, steps in (([], [0]), ([0], []), ([0], [0, 0]), ([0, 1, 2], [0, 0]), ([0, 1, 2], [0, 0, 0, 0])):
            with self.subTest(standing=standing, steps=steps):
                self.assertRaises(BadStanding, from_steps, standing, steps)

    def test_a_step_that_is_no_number(self):
        for step in (HUGE, -HUGE, -1, 3) + NO_NUMBERS:
            for steps in ([step, 0, 0], [0, step, 0], [0, 0, step]):
                with self.subTest():
                    self.assertRaises(BadStanding, from_steps, [0, 1, 2], steps)


class WhatIsAStanding(unittest.TestCase):
    def assert_refused(self, standing):
        self.assertRaises(BadStanding, reaches, standing)
        self.assertRaises(BadStanding, how_many, standing)
        self.assertRaises(BadStanding, from_steps, standing, [])
        self.assertRaises(BadStanding, from_steps, standing, [0])
        self.assertRaises(BadStanding, from_steps, standing, [0, 0, 0])
        self.assertRaises(BadStanding, from_steps, standing, None)

    def test_no_list(self):
        for standing in NO_LISTS + ((0, 1, 2), "012", range(3), {0: 0, 1: 1, 2: 2}):
            with self.subTest(standing=standing):
                self.assert_refused(standing)

    def test_a_car_twice(self):
        for standing in ([0, 0, 1], [1, 1, 1], [2, 0, 2], [0, 1, 1], [0, 0]):
            with self.subTest(standing=standing):
                self.assert_refused(standing)

    def test_a_car_that_is_none(self):
        for car in (-1, 3, 4, HUGE, -HUGE) + NO_NUMBERS:
            for standing in ([car, 0, 1], [2, car, 0], [0, 1, car], [0, 2, car]):
                with self.subTest():
                    self.assert_refused(standing)
        for standing in ([1], [-1], [None], [False], [False, 1], [0, True], [1, 2, 3]):
            with self.subTest(standing=standing):
                self.assert_refused(standing)

    def test_every_short_list_of_small_numbers(self):
        for cars in range(5):
            for numbers in product(range(-1, cars + 1), repeat=cars):
                if sorted(numbers) == list(range(cars)):
                    self.assertEqual(len(reaches(list(numbers))), cars)
                else:
                    self.assertRaises(BadStanding, reaches, list(numbers))
                    self.assertRaises(BadStanding, how_many, list(numbers))
                    self.assertRaises(BadStanding, from_steps, list(numbers), [0] * cars)


if __name__ == "__main__":
    unittest.main()
