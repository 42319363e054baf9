"""Points 1, 3 and 4 of DOC.md: the bounds of parts, BadPart, then NotEven."""

import unittest

from evenbend.errors import BadPart, NotEven
from evenbend.pairs import Ahead, Gaps, Near
from evenbend.parts import Aim, Part, Row, Slope, Square, Wall
from evenbend.wraps import Moved, Times

NO_NUMBERS = [True, False, None, "1", "", b"1", [], [1], (1,), {}, {1: 1}, object(), int]
NO_LISTS = [None, True, False, 0, 3, "", "123", b"12", (1, 2), {1: 2}, range(3), object(), list]
NO_PARTS = [None, True, False, 0, 3, "", "slope 0 -3", [], [Slope(0, 1)], (Slope(0, 1),), {}, object(), Slope, Part]

# What is bounded: a maker of a part from one number, the least and the greatest that is taken.
BOUNDED = [
    ("slope place", lambda n: Slope(n, 1), 0, 7),
    ("slope weight", lambda n: Slope(0, n), -1000, 1000),
    ("aim place", lambda n: Aim(n, 0), 0, 7),
    ("aim aim", lambda n: Aim(0, n), -100, 100),
    ("aim weight", lambda n: Aim(0, 0, n), 0, 1000),
    ("square place", lambda n: Square(n, 0), 0, 7),
    ("square aim", lambda n: Square(0, n), -100, 100),
    ("square weight", lambda n: Square(0, 0, n), 0, 1000),
    ("row place", lambda n: Row(n, 0, [1]), 0, 7),
    ("row first", lambda n: Row(0, n, [1]), -100, 100),
    ("row only worth", lambda n: Row(0, 0, [n]), -1000000, 1000000),
    ("row first worth", lambda n: Row(0, 0, [n, -1000000, 0]), -1000000, 1000000),
    ("row last worth", lambda n: Row(0, 0, [0, -1000000, n]), -1000000, 1000000),
    ("wall place", lambda n: Wall(n, 0, 0), 0, 7),
    ("wall low", lambda n: Wall(0, n, 100), -100, 100),
    ("wall high", lambda n: Wall(0, -100, n), -100, 100),
    ("near one", lambda n: Near(n, 3 if n == 7 else 7), 0, 7),
    ("near other", lambda n: Near(3 if n == 7 else 7, n), 0, 7),
    ("near aim", lambda n: Near(0, 1, n), -100, 100),
    ("near weight", lambda n: Near(0, 1, 0, n), 0, 1000),
    ("gaps one", lambda n: Gaps(n, 3 if n == 7 else 7, 0, [1]), 0, 7),
    ("gaps other", lambda n: Gaps(3 if n == 7 else 7, n, 0, [1]), 0, 7),
    ("gaps first", lambda n: Gaps(0, 1, n, [1]), -100, 100),
    ("gaps worth", lambda n: Gaps(0, 1, 0, [n, -1000000]), -1000000, 1000000),
    ("ahead one", lambda n: Ahead(n, 3 if n == 7 else 7, 0), 0, 7),
    ("ahead other", lambda n: Ahead(3 if n == 7 else 7, n, 0), 0, 7),
    ("ahead gap", lambda n: Ahead(0, 1, n), -100, 100),
    ("times many", lambda n: Times(Slope(0, 1), n), 1, 100),
    ("moved by", lambda n: Moved(Slope(0, 1), n), -100, 100),
]
LISTED = [
    ("row", lambda worths: Row(0, 0, worths)),
    ("gaps", lambda worths: Gaps(0, 1, 0, worths)),
]
WRAPPING = [
    ("times", lambda part: Times(part, 2)),
    ("moved", lambda part: Moved(part, 2)),
]


class RefusalCase(unittest.TestCase):
    def refused(self, make, *handed):
        with self.assertRaises(BadPart) as caught:
            make(*handed)
        self.assertIs(type(caught.exception), BadPart)


class BoundTest(RefusalCase):
    def test_the_bounds_are_taken(self):
        for name, make, low, high in BOUNDED:
            with self.subTest(name):
                for number in (low, low + 1, high - 1, high):
                    self.assertIsInstance(make(number), Part)

    def test_beyond_the_bounds(self):
        for name, make, low, high in BOUNDED:
            with self.subTest(name):
                for number in (low - 1, high + 1, -(10 ** 50), 10 ** 50, -(10 ** 5000), 10 ** 5000):
                    self.refused(make, number)

    def test_no_numbers(self):
        for name, make, _, _ in BOUNDED:
            for value in NO_NUMBERS:
                with self.subTest(name, value=value):
                    self.refused(make, value)

    def test_what_is_made_at_the_bounds(self):
        self.assertEqual(Slope(7, -1000).worth_of(3), -3000)
        self.assertEqual(Square(7, -100, 1000).worth_of(-102), 4000)
        self.assertEqual(Row(7, 100, [0] * 40).limits(), (100, 139))
        self.assertEqual(Row(7, -100, [0] * 40).limits(), (-100, -61))
        self.assertEqual(Wall(0, -100, 100).limits(), (-100, 100))
        self.assertEqual(Ahead(7, 0, -100).limits(), (None, -100))
        self.assertEqual(Times(Slope(0, 1000), 100).worth_of(-1), -100000)
        self.assertEqual(Moved(Wall(0, 100, 100), 100).limits(), (200, 200))

    def test_each_place_is_taken(self):
        for place in range(8):
            self.assertEqual(Slope(place, 1).stands(), [place])
            for other in range(8):
                if other != place:
                    self.assertEqual(Ahead(place, other, 1).stands(), [place, other])


class WorthsTest(RefusalCase):
    def test_lengths(self):
        for name, make in LISTED:
            with self.subTest(name):
                for length in (1, 2, 3, 39, 40):
                    self.assertEqual(make([0] * length).limits(), (0, length - 1))
                for length in (0, 41, 42, 400):
                    self.refused(make, [0] * length)

    def test_no_lists(self):
        for name, make in LISTED:
            for value in NO_LISTS:
                with self.subTest(name, value=value):
                    self.refused(make, value)

    def test_no_numbers_among_them(self):
        for name, make in LISTED:
            for value in NO_NUMBERS:
                for at in range(3):
                    worths = [0, 0, 0]
                    worths[at] = value
                    with self.subTest(name, worths=worths):
                        self.refused(make, worths)

    def test_beyond_the_bounds_at_each_place(self):
        for name, make in LISTED:
            for at in range(40):
                for worth in (1000001, -1000001):
                    worths = [0] * 40
                    worths[at] = worth
                    self.refused(make, worths)


class PlacesTest(RefusalCase):
    def test_two_like_places(self):
        for place in range(8):
            self.refused(Near, place, place)
            self.refused(Gaps, place, place, 0, [1])
            self.refused(Ahead, place, place, 0)

    def test_low_above_high(self):
        self.refused(Wall, 0, 1, 0)
        self.refused(Wall, 0, 100, -100)
        self.refused(Wall, 0, 100, 99)
        self.assertEqual(Wall(0, 1, 1).limits(), (1, 1))


class WrapTest(RefusalCase):
    def test_no_parts(self):
        for name, make in WRAPPING:
            for value in NO_PARTS:
                with self.subTest(name, value=value):
                    self.refused(make, value)

    def test_a_part_is_not_made_itself(self):
        self.refused(Part)

    def test_nine_wraps(self):
        for _, last in WRAPPING:
            for _, inner in WRAPPING:
                for _, outer in WRAPPING:
                    for part in (Slope(0, 1), Row(0, 0, [1]), Gaps(0, 1, 0, [1]), Ahead(0, 1, 2)):
                        for _ in range(4):
                            part = outer(inner(part))
                        self.assertIsInstance(part, Part)
                        self.refused(last, part)

    def test_a_part_may_be_wrapped_twice_over(self):
        part = Slope(0, 1)
        for _ in range(7):
            part = Times(part, 2)
        # These are several parts of eight wraps each, none of nine.
        self.assertEqual(Times(part, 2).worth_of(1), 256)
        self.assertEqual(Times(part, 2).worth_of(1), 256)
        self.assertEqual(Moved(part, 1).worth_of(2), 128)


class EvenTest(RefusalCase):
    def crooked(self, worths, at):
        for name, make in LISTED:
            with self.subTest(name, worths=worths):
                with self.assertRaises(NotEven) as caught:
                    make(worths)
                self.assertIs(type(caught.exception), NotEven)
                self.assertEqual(caught.exception.at, at)

    def test_one_and_two_worths_always_bend_evenly(self):
        for worths in ([0], [1000000], [-1000000], [0, 5], [5, 0], [1000000, -1000000], [-1000000, 1000000]):
            for _, make in LISTED:
                self.assertEqual(make(worths).worth_of(0), worths[0])

    def test_straight_rows_bend_evenly(self):
        for worths in ([3, 3, 3], [1, 2, 3], [3, 2, 1], [-5, 0, 5, 10], list(range(40)), list(range(40, 0, -1))):
            for _, make in LISTED:
                self.assertEqual(make(worths).limits(), (0, len(worths) - 1))

    def test_rows_that_bend_evenly(self):
        for worths in ([9, 4, 1, 0, 1, 4, 9], [1000000, -1000000, 1000000], [0, -1, -1], [at * at for at in range(40)]):
            for _, make in LISTED:
                self.assertEqual([make(worths).worth_of(at) for at in range(len(worths))], worths)

    def test_a_bend_at_the_first_place(self):
        self.crooked([0, 1, 0], 1)
        self.crooked([0, 1, 1], 1)
        self.crooked([0, 2, 3], 1)
        self.crooked([0, 1, 0, 0, 0], 1)
        self.crooked([-1000000, 1000000, -1000000], 1)

    def test_a_bend_at_a_middle_place(self):
        self.crooked([9, 4, 1, 1, 0, 0], 3)
        self.crooked([0, 0, 1, 1, 1], 2)
        self.crooked([at * at for at in range(20)] + [400] * 20, 20)

    def test_a_bend_at_the_last_place(self):
        self.crooked([4, 1, 0, 0, -1], 3)
        self.crooked([0, 0, 1, 1], 2)
        self.crooked([0] * 38 + [1, 1], 38)
        self.crooked([0] * 39 + [-1], 38)

    def test_the_first_of_several(self):
        self.crooked([0, 1, 0, 1, 0], 1)
        self.crooked([5, 0, 0, 1, 1, 2, 2], 3)
        self.crooked([0, 3, 3, 0], 1)

    def test_by_trying_all_short_rows(self):
        for a in range(-2, 3):
            for b in range(-2, 3):
                for c in range(-2, 3):
                    for d in range(-2, 3):
                        self.check_row([a, b, c, d])

    def check_row(self, worths):
        a, b, c, d = worths
        if b - a > c - b:
            self.crooked(worths, 1)
        elif c - b > d - c:
            self.crooked(worths, 2)
        else:
            self.assertEqual(Row(0, 0, worths).worth_of(3), d)
            self.assertEqual(Gaps(0, 1, 0, worths).worth_of(3), d)

    def test_bad_part_goes_first(self):
        bend = [0, 1, 0]
        self.refused(Row, 8, 0, bend)
        self.refused(Row, None, 0, bend)
        self.refused(Row, 0, 101, bend)
        self.refused(Row, 0, True, bend)
        self.refused(Gaps, 8, 0, 0, bend)
        self.refused(Gaps, 0, 8, 0, bend)
        self.refused(Gaps, 0, False, 0, bend)
        self.refused(Gaps, 1, 1, 0, bend)
        self.refused(Gaps, 0, 1, -101, bend)
        for _, make in LISTED:
            self.refused(make, [0, 1, 0, None])
            self.refused(make, [0, 1, 0, True])
            self.refused(make, [0, 1, 0, 1000001])
            self.refused(make, [0, 1000001, 0])
            self.refused(make, [0, 1] * 20 + [0])
            self.refused(make, (0, 1, 0))


if __name__ == "__main__":
    unittest.main()
