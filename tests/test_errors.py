"""[3]: the refusals."""

import unittest

from movedays import errors

REFUSALS = ["NoRoad", "NoHouse", "Clash", "NoReport", "NoTale", "NoDays", "NoText"]


class Refusals(unittest.TestCase):
    def test_village_error_stands_under_value_error(self):
        self.assertEqual(errors.VillageError.__bases__, (ValueError,))

    def test_each_stands_straight_under_village_error(self):
        for name in REFUSALS:
            self.assertEqual(getattr(errors, name).__bases__, (errors.VillageError,), name)

    def test_none_stands_under_another(self):
        for one in REFUSALS:
            for other in REFUSALS:
                under = issubclass(getattr(errors, one), getattr(errors, other))
                self.assertEqual(under, one == other, (one, other))

    def test_what_is_kept_by_place_and_by_name(self):
        for name in REFUSALS:
            for what in [0, 7, -1, -(10 ** 60), None, "a text", "", (1, 2), ((1, 2), (0, 3))]:
                self.assertEqual(getattr(errors, name)(what).what, what)
                self.assertEqual(getattr(errors, name)(what=what).what, what)

    def test_what_must_be_told_and_just_once(self):
        for name in REFUSALS:
            with self.assertRaises(TypeError):
                getattr(errors, name)()
            with self.assertRaises(TypeError):
                getattr(errors, name)(1, 2)

    def test_they_are_raised_and_caught(self):
        for name in REFUSALS:
            with self.assertRaises(errors.VillageError) as caught:
                raise getattr(errors, name)((1, 2))
            self.assertEqual(caught.exception.what, (1, 2))
            self.assertTrue(str(caught.exception))


if __name__ == "__main__":
    unittest.main()
