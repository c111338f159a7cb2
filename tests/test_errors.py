import unittest

from parkrow import errors


class Errors(unittest.TestCase):
    def test_street_error_stands_straight_under_value_error(self):
        self.assertEqual(errors.StreetError.__bases__, (ValueError,))

    def test_each_refusal_stands_straight_under_street_error(self):
        for name in ("BadWishes", "TooMany", "BadTree", "BadPath", "BadStanding", "BadText"):
            with self.subTest(name=name):
                self.assertEqual(getattr(errors, name).__bases__, (errors.StreetError,))

    def test_each_refusal_is_a_class_of_its_own(self):
        names = ("BadWishes", "TooMany", "BadTree", "BadPath", "BadStanding", "BadText")
        self.assertEqual(len({getattr(errors, name) for name in names}), 6)


if __name__ == "__main__":
    unittest.main()
