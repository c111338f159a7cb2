import unittest
from itertools import product

from parkrow.errors import BadTree, BadWishes, TooMany
from parkrow.trees import tree, wishes_of
from plain import HUGE, NO_LISTS, NO_NUMBERS, all_full, all_wishes, is_full, is_tree, plain_row


def all_parents(cars):
    return [list(parents) for parents in product(range(cars + 1), repeat=cars)]


class Tree(unittest.TestCase):
    def test_no_cars_and_one_car(self):
        self.assertEqual(tree([]), [])
        self.assertEqual(tree([0]), [0])

    def test_all_beneath_the_root(self):
        self.assertEqual(tree([0, 0, 0, 0]), [0, 0, 0, 0])

    def test_a_chain(self):
        self.assertEqual(tree([0, 1, 2, 3]), [0, 1, 2, 3])
        self.assertEqual(tree([3, 2, 1, 0]), [2, 3, 4, 0])

    def test_ordinary(self):
        # Served: the root, then 2 and 4, then 1 beneath 2, then 3 beneath 1.
        self.assertEqual(tree([1, 0, 3, 0]), [2, 0, 1, 0])
        # Served: the root, then 3, then 1 and 2 beneath 3, then 4 beneath 2.
        self.assertEqual(tree([1, 1, 0, 3]), [3, 3, 0, 2])

    def test_all_small_wishes(self):
        for cars in range(6):
            for wishes in all_full(cars):
                parents = tree(wishes)
                self.assertEqual(len(parents), cars)
                self.assertTrue(is_tree(parents))
                row = plain_row(parents)
                self.assertEqual(parents, [row[wish] for wish in wishes])

    def test_the_tree_led_back_is_the_wishes(self):
        for cars in range(6):
            for wishes in all_full(cars):
                self.assertEqual(wishes_of(tree(wishes)), wishes)

    def test_many_cars(self):
        cars = 200000
        rising, falling = list(range(cars)), list(range(cars - 1, -1, -1))
        self.assertTrue(tree(rising) == rising)
        self.assertTrue(tree(falling) == list(range(2, cars + 1)) + [0])
        self.assertTrue(tree([0] * cars) == [0] * cars)

    def test_not_full(self):
        for wishes in ([1, 1], [0, 2, 2], [1, 1, 2], [3, 3, 0, 0]):
            with self.subTest(wishes=wishes):
                self.assertRaises(TooMany, tree, wishes)
        for wishes in all_wishes(4, 4):
            if not is_full(wishes):
                self.assertRaises(TooMany, tree, wishes)

    def test_no_list(self):
        for wishes in NO_LISTS:
            with self.subTest(wishes=wishes):
                self.assertRaises(BadWishes, tree, wishes)

    def test_no_place_of_as_many(self):
        for wish in (-1, 3, 4, HUGE, -HUGE) + NO_NUMBERS:
            for wishes in ([wish, 0, 0], [0, wish, 1], [0, 1, wish]):
                with self.subTest():
                    self.assertRaises(BadWishes, tree, wishes)
        self.assertRaises(BadWishes, tree, [1])
        self.assertRaises(BadWishes, tree, [False])

    def test_bad_wishes_come_ahead_of_too_many(self):
        for wishes in ([2, 2, 3], [2, 2, -1], [2, 2, True], [False, 2, 2], [2, 2, "0"], [3, 3, 3]):
            with self.subTest(wishes=wishes):
                self.assertRaises(BadWishes, tree, wishes)


class WishesOf(unittest.TestCase):
    def test_no_cars_and_one_car(self):
        self.assertEqual(wishes_of([]), [])
        self.assertEqual(wishes_of([0]), [0])

    def test_all_beneath_the_root(self):
        self.assertEqual(wishes_of([0, 0, 0, 0]), [0, 0, 0, 0])

    def test_a_chain(self):
        self.assertEqual(wishes_of([0, 1, 2, 3]), [0, 1, 2, 3])

    def test_a_parent_counted_behind_its_child(self):
        self.assertEqual(wishes_of([2, 0]), [1, 0])
        self.assertEqual(wishes_of([2, 3, 4, 0]), [3, 2, 1, 0])
        self.assertEqual(wishes_of([3, 3, 0, 2]), [1, 1, 0, 3])

    def test_children_come_into_the_row_rising_behind_those_who_wait(self):
        # Served: 0, 3, 4, then 2 and 5 beneath 3, then 1 beneath 4, then 6 beneath 2.
        self.assertEqual(wishes_of([4, 3, 0, 0, 3, 2]), [2, 1, 0, 0, 1, 3])

    def test_every_small_tree_and_what_is_none(self):
        for cars in range(6):
            for parents in all_parents(cars):
                if is_tree(parents):
                    row = plain_row(parents)
                    wishes = wishes_of(parents)
                    self.assertEqual(wishes, [row.index(parent) for parent in parents])
                    self.assertTrue(is_full(wishes))
                    self.assertEqual(tree(wishes), parents)
                else:
                    self.assertRaises(BadTree, wishes_of, parents)

    def test_many_cars(self):
        cars = 200000
        rising = list(range(cars))
        self.assertTrue(wishes_of(rising) == rising)
        self.assertTrue(wishes_of(list(range(2, cars + 1)) + [0]) == rising[::-1])
        self.assertTrue(wishes_of([0] * cars) == [0] * cars)

    def test_no_list(self):
        for parents in NO_LISTS:
            with self.subTest(parents=parents):
                self.assertRaises(BadTree, wishes_of, parents)

    def test_a_parent_that_is_no_car_and_not_the_root(self):
        for parent in (-1, -3, 4, 5, HUGE, -HUGE) + NO_NUMBERS:
            for parents in ([parent, 0, 0], [0, parent, 0], [0, 0, parent], [parent, parent, parent]):
                with self.subTest():
                    self.assertRaises(BadTree, wishes_of, parents)
        for parents in ([2], [-1], [True], [False], [0, True], [False, 1]):
            with self.subTest(parents=parents):
                self.assertRaises(BadTree, wishes_of, parents)

    def test_a_car_that_is_its_own_parent(self):
        for parents in ([1], [0, 2], [1, 0], [0, 0, 3], [0, 2, 2]):
            with self.subTest(parents=parents):
                self.assertRaises(BadTree, wishes_of, parents)

    def test_a_longer_round_of_parents(self):
        for parents in ([2, 1], [2, 3, 1], [0, 3, 2], [0, 3, 4, 2], [2, 1, 0, 3], [5, 1, 2, 3, 4], [2, 1, 1, 3]):
            with self.subTest(parents=parents):
                self.assertRaises(BadTree, wishes_of, parents)
        self.assertRaises(BadTree, wishes_of, list(range(2, 200001)) + [1])


if __name__ == "__main__":
    unittest.main()
