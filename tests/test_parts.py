"""Points 2 and 3 of DOC.md: where parts stand, their worths and what they bar."""

import unittest

from evenbend.pairs import Ahead, Gaps, Near
from evenbend.parts import Aim, Part, Row, Slope, Square, Wall
from evenbend.wraps import Moved, Times
from tests.samples import SAMPLES, moved_of, times_of, told_numbers, wrapped

TWICE = [
    [("times", 3), ("times", 5)],
    [("times", 3), ("moved", 5)],
    [("moved", -4), ("times", 2)],
    [("moved", -4), ("moved", 9)],
]
ONCE = [[("times", 1)], [("times", 3)], [("times", 100)],
        [("moved", 0)], [("moved", 5)], [("moved", -5)], [("moved", 100)], [("moved", -100)]]
EIGHT = [
    [("times", 100)] * 8,
    [("moved", 2)] * 8,
    [("moved", -2)] * 8,
    [("times", 2), ("moved", 3)] * 4,
    [("moved", 7), ("times", 3), ("moved", -20), ("moved", 1)] * 2,
]


class PartCase(unittest.TestCase):
    def check_sample(self, sample, wraps):
        part = wrapped(sample.make(), wraps)
        many, by = times_of(wraps), moved_of(wraps)
        limits = tuple(None if limit is None else limit + by for limit in sample.limits)
        with self.subTest(sort=sample.sort, wraps=wraps):
            self.assertEqual(part.stands(), sample.stands)
            self.assertIs(type(part.stands()), list)
            self.assertEqual(part.limits(), limits)
            self.assertIs(type(part.limits()), tuple)
            for reads in told_numbers(limits):
                worth = sample.worth(reads - by)
                self.assertEqual(part.worth_of(reads), None if worth is None else many * worth)

    def test_plain(self):
        for sample in SAMPLES:
            self.check_sample(sample, [])

    def test_wrapped_once(self):
        for sample in SAMPLES:
            for wraps in ONCE:
                self.check_sample(sample, wraps)

    def test_wrapped_twice(self):
        for sample in SAMPLES:
            for wraps in TWICE:
                self.check_sample(sample, wraps)

    def test_wrapped_eight_times(self):
        for sample in SAMPLES:
            # These two are wrapped once already.
            room = 7 if sample.sort in ("times", "moved") else 8
            for wraps in EIGHT:
                self.check_sample(sample, wraps[:room])


class ByHandTest(unittest.TestCase):
    """Single worths, reckoned by hand from the words of the document."""

    def test_slope(self):
        self.assertEqual(Slope(0, -3).worth_of(4), -12)
        self.assertEqual(Slope(0, -3).worth_of(-4), 12)
        self.assertEqual(Slope(0, 0).worth_of(9), 0)

    def test_aim(self):
        self.assertEqual(Aim(1, 5, 2).worth_of(5), 0)
        self.assertEqual(Aim(1, 5, 2).worth_of(2), 6)
        self.assertEqual(Aim(1, 5, 2).worth_of(9), 8)
        self.assertEqual(Aim(1, 5, 0).worth_of(9), 0)

    def test_square(self):
        self.assertEqual(Square(1, 5, 2).worth_of(2), 18)
        self.assertEqual(Square(1, 5, 2).worth_of(8), 18)
        self.assertEqual(Square(1, 5, 0).worth_of(8), 0)

    def test_row(self):
        row = Row(0, 2, [4, 1, 0])
        self.assertEqual([row.worth_of(reads) for reads in range(6)], [None, None, 4, 1, 0, None])
        self.assertEqual(row.limits(), (2, 4))

    def test_row_never_counts_from_its_end(self):
        self.assertIsNone(Row(0, 0, [4, 1, 0]).worth_of(-1))
        self.assertIsNone(Row(0, 0, [4, 1, 0]).worth_of(-3))

    def test_row_of_one(self):
        self.assertEqual(Row(0, -1, [6]).limits(), (-1, -1))
        self.assertEqual([Row(0, -1, [6]).worth_of(reads) for reads in (-2, -1, 0)], [None, 6, None])

    def test_wall(self):
        self.assertEqual([Wall(0, 1, 3).worth_of(reads) for reads in range(5)], [None, 0, 0, 0, None])
        self.assertEqual([Wall(0, 2, 2).worth_of(reads) for reads in (1, 2, 3)], [None, 0, None])

    def test_near(self):
        self.assertEqual(Near(0, 1, 5, 2).worth_of(2), 6)
        self.assertEqual(Near(1, 0, 5, 2).stands(), [1, 0])

    def test_gaps(self):
        gaps = Gaps(0, 1, -1, [4, 0, 4])
        self.assertEqual([gaps.worth_of(reads) for reads in range(-3, 4)], [None, None, 4, 0, 4, None, None])
        self.assertEqual(gaps.limits(), (-1, 1))

    def test_ahead(self):
        ahead = Ahead(0, 1, -2)
        self.assertEqual([ahead.worth_of(reads) for reads in (-99, -3, -2, -1, 0)], [0, 0, 0, None, None])
        self.assertEqual(ahead.limits(), (None, -2))

    def test_times(self):
        self.assertEqual(Times(Slope(0, 5), 3).worth_of(2), 30)
        self.assertIsNone(Times(Wall(0, 0, 1), 3).worth_of(2))
        self.assertEqual(Times(Wall(0, 0, 1), 3).worth_of(1), 0)
        self.assertEqual(Times(Wall(0, 0, 1), 3).limits(), (0, 1))

    def test_moved(self):
        self.assertEqual(Moved(Slope(0, 5), 3).worth_of(10), 35)
        self.assertEqual(Moved(Wall(0, 0, 1), 3).limits(), (3, 4))
        self.assertEqual(Moved(Ahead(0, 1, 2), -7).limits(), (None, -5))

    def test_default_values(self):
        self.assertEqual(Aim(0, 4).worth_of(1), 3)
        self.assertEqual(Square(0, 4).worth_of(1), 9)
        self.assertEqual(Near(0, 1).worth_of(-8), 8)
        self.assertEqual(Near(0, 1, 3).worth_of(-8), 11)
        self.assertEqual(Near(0, 1, weight=2).worth_of(-8), 16)

    def test_arguments_by_name(self):
        self.assertEqual(Slope(place=1, weight=2).worth_of(3), 6)
        self.assertEqual(Aim(place=1, aim=2, weight=3).worth_of(0), 6)
        self.assertEqual(Square(place=1, aim=2, weight=3).worth_of(0), 12)
        self.assertEqual(Row(place=1, first=2, worths=[3]).worth_of(2), 3)
        self.assertEqual(Wall(place=1, low=2, high=3).limits(), (2, 3))
        self.assertEqual(Near(one=1, other=2, aim=3, weight=4).worth_of(0), 12)
        self.assertEqual(Gaps(one=1, other=2, first=3, worths=[4]).worth_of(3), 4)
        self.assertEqual(Ahead(one=1, other=2, gap=3).limits(), (None, 3))
        self.assertEqual(Times(part=Slope(0, 1), many=2).worth_of(3), 6)
        self.assertEqual(Moved(part=Slope(0, 1), by=2).worth_of(3), 1)


class KindTest(unittest.TestCase):
    def test_near_is_an_aim_and_gaps_a_row(self):
        self.assertIsInstance(Near(0, 1), Aim)
        self.assertIsInstance(Gaps(0, 1, 0, [1]), Row)
        self.assertNotIsInstance(Square(0, 1), Aim)
        self.assertNotIsInstance(Ahead(0, 1, 0), (Aim, Row))

    def test_all_are_parts(self):
        for sample in SAMPLES:
            self.assertIsInstance(sample.make(), Part)

    def test_base_classes(self):
        for kind in (Slope, Aim, Square, Row, Wall, Ahead, Times, Moved):
            self.assertEqual(kind.__bases__, (Part,))
        self.assertEqual(Near.__bases__, (Aim,))
        self.assertEqual(Gaps.__bases__, (Row,))

    def test_each_class_defines_each_method(self):
        for kind in (Slope, Aim, Square, Row, Wall, Near, Gaps, Ahead, Times, Moved):
            for name in ("stands", "worth_of", "limits"):
                self.assertIn(name, vars(kind))

    def test_each_class_is_defined_in_its_file(self):
        for kind in (Part, Slope, Aim, Square, Row, Wall):
            self.assertEqual(kind.__module__, "evenbend.parts")
        for kind in (Near, Gaps, Ahead):
            self.assertEqual(kind.__module__, "evenbend.pairs")
        for kind in (Times, Moved):
            self.assertEqual(kind.__module__, "evenbend.wraps")


class OwnTest(unittest.TestCase):
    """Point 1: nothing handed in is kept or changed, and what is told is the asker's own."""

    def test_worths_changed_behind_the_making(self):
        for make in (lambda worths: Row(0, 0, worths), lambda worths: Gaps(0, 1, 0, worths)):
            for wrap in (lambda part: part, lambda part: Times(part, 1), lambda part: Moved(part, 0)):
                worths = [5, 2, 1]
                part = wrap(make(worths))
                worths[0] = 900
                worths.append(77)
                self.assertEqual([part.worth_of(reads) for reads in range(4)], [5, 2, 1, None])
                self.assertEqual(part.limits(), (0, 2))
                worths.clear()
                self.assertEqual(part.worth_of(0), 5)

    def test_worths_are_not_changed(self):
        worths = [5, 2, 1]
        for part in (Row(0, 0, worths), Gaps(0, 1, 0, worths)):
            part.worth_of(1)
            part.limits()
            self.assertEqual(worths, [5, 2, 1])

    def test_two_calls_tell_two_lists(self):
        for sample in SAMPLES:
            for wraps in ([], [("times", 2)], [("moved", 2)]):
                part = wrapped(sample.make(), wraps)
                told = part.stands()
                self.assertIsNot(told, part.stands())
                told.append(99)
                told[0] = -1
                self.assertEqual(part.stands(), sample.stands)

    def test_a_wrap_does_not_change_what_it_wraps(self):
        part = Row(0, 2, [4, 1, 0])
        Moved(Times(part, 3), 8).stands().clear()
        self.assertEqual(part.stands(), [0])
        self.assertEqual([part.worth_of(reads) for reads in range(1, 6)], [None, 4, 1, 0, None])
        self.assertEqual(part.limits(), (2, 4))


if __name__ == "__main__":
    unittest.main()
