"""The rows of the interface under evenbend/errors.py."""

import unittest

from evenbend import errors
from evenbend.parts import Row


class ErrorsTest(unittest.TestCase):
    def test_the_base(self):
        self.assertEqual(errors.BendError.__bases__, (ValueError,))

    def test_all_stand_straight_under_the_base(self):
        for kind in (errors.BadPart, errors.NotEven, errors.BadHall, errors.BadPoint, errors.BadNumber,
                     errors.BadChart, errors.Crooked, errors.BadText):
            self.assertEqual(kind.__bases__, (errors.BendError,))
            self.assertEqual(kind.__module__, "evenbend.errors")

    def test_fields(self):
        self.assertEqual(errors.NotEven(3).at, 3)
        self.assertEqual(errors.BadText(0).row, 0)

    def test_the_points_of_crooked_are_the_askers_own(self):
        one, other = [0, 1], [2, 3]
        told = errors.Crooked(one, other)
        one.append(9)
        other.clear()
        self.assertEqual((told.one, told.other), ([0, 1], [2, 3]))

    def test_caught_as_a_bend_error_and_a_value_error(self):
        for kind in (errors.BendError, ValueError):
            with self.assertRaises(kind):
                Row(0, 0, [0, 1, 0])


if __name__ == "__main__":
    unittest.main()
