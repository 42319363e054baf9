"""Points 1, 2 and 4 of DOC.md, as far as they speak of halls and points, and evenbend/halls.py."""

import inspect
import random
import unittest

from evenbend.errors import BadHall, BadPoint
from evenbend.halls import Hall
from evenbend.pairs import Ahead, Gaps, Near
from evenbend.parts import Aim, Part, Row, Slope, Square, Wall
from evenbend.wraps import Moved, Times
from tests.drawn import Plan, drawn_hall
from tests.test_refusals import NO_LISTS, NO_NUMBERS, NO_PARTS


class HallCase(unittest.TestCase):
    def refused(self, kind, call, *handed, **named):
        with self.assertRaises(kind) as caught:
            call(*handed, **named)
        self.assertIs(type(caught.exception), kind)


class InterfaceTest(unittest.TestCase):
    def test_the_class_and_its_methods(self):
        self.assertEqual(Hall.__module__, "evenbend.halls")
        for name in ("__init__", "worth", "parts"):
            self.assertIn(name, vars(Hall))

    def test_arguments_and_default_values(self):
        self.assertEqual(str(inspect.signature(Hall)), "(many, parts, low=0, high=20)")
        self.assertEqual(str(inspect.signature(Hall.worth)), "(self, point)")
        hall = Hall(many=1, parts=[Slope(0, 3)])
        self.assertEqual([hall.worth(point=[at]) for at in (-1, 0, 20, 21)], [None, 0, 60, None])
        self.assertEqual(Hall(1, [], 20).worth([20]), 0)
        self.assertIsNone(Hall(1, [], 20).worth([19]))
        self.assertEqual(Hall(1, [], high=0).worth([0]), 0)
        self.assertIsNone(Hall(1, [], high=0).worth([1]))


class HallBoundTest(HallCase):
    def test_places(self):
        for many in range(1, 9):
            self.assertEqual(Hall(many, [Slope(many - 1, 1)]).worth([3] * many), 3)
        for many in (0, 9, -1, 10, 10 ** 30, -(10 ** 30)):
            self.refused(BadHall, Hall, many, [])

    def test_low_and_high(self):
        for low, high in ((-50, 50), (-50, -50), (50, 50), (0, 0), (-1, 0), (49, 50)):
            hall = Hall(1, [], low, high)
            self.assertEqual([hall.worth([at]) for at in (low - 1, low, high, high + 1)], [None, 0, 0, None])
        for low, high in ((-51, 50), (-50, 51), (-51, -51), (51, 51), (1, 0), (50, -50), (-49, -50), (21, 20)):
            self.refused(BadHall, Hall, 1, [], low, high)
        self.refused(BadHall, Hall, 1, [], 21)
        self.refused(BadHall, Hall, 1, [], high=-1)
        self.refused(BadHall, Hall, 1, [], -(10 ** 30), 10 ** 30)

    def test_the_number_of_parts(self):
        for number in (0, 1, 23, 24):
            self.assertEqual(Hall(1, [Slope(0, 1)] * number).worth([2]), 2 * number)
        for number in (25, 26, 100):
            self.refused(BadHall, Hall, 1, [Slope(0, 1)] * number)

    def test_parts_at_places_that_the_hall_hasnt(self):
        for many in range(1, 8):
            at, last = many, many - 1
            parts = [Slope(at, 1), Aim(at, 0), Square(at, 0), Row(at, 0, [0]), Wall(at, 0, 9), Near(last, at),
                     Near(at, last), Gaps(last, at, 0, [0]), Gaps(at, last, 0, [0]), Ahead(last, at, 9),
                     Ahead(at, last, 9), Times(Near(last, at), 2), Moved(Slope(at, 1), 1)]
            for part in parts:
                self.refused(BadHall, Hall, many, [part])
                self.refused(BadHall, Hall, many, [Slope(0, 1), part, Slope(0, 1)])
                self.assertEqual(Hall(many + 1, [part]).parts(), [part])
        self.refused(BadHall, Hall, 1, [Near(0, 7)])
        self.refused(BadHall, Hall, 7, [Slope(7, 1)])

    def test_no_numbers(self):
        for value in NO_NUMBERS:
            with self.subTest(value=value):
                self.refused(BadHall, Hall, value, [])
                self.refused(BadHall, Hall, 1, [], value, 20)
                self.refused(BadHall, Hall, 1, [], 0, value)

    def test_no_lists_of_parts(self):
        for value in NO_LISTS + [(Slope(0, 1),), {0: Slope(0, 1)}, Slope(0, 1)]:
            with self.subTest(value=value):
                self.refused(BadHall, Hall, 1, value)

    def test_no_parts_among_them(self):
        for value in NO_PARTS + [Hall(1, [])]:
            for parts in ([value], [Slope(0, 1), value], [value, Slope(0, 1)], [Slope(0, 1)] * 23 + [value]):
                with self.subTest(parts=parts):
                    self.refused(BadHall, Hall, 1, parts)


class PointBoundTest(HallCase):
    def test_numbers_of_a_point(self):
        for many in (1, 2, 8):
            hall = Hall(many, [], -50, 50)
            for at in range(many):
                for number in (-1000, -999, -51, 51, 999, 1000):
                    point = [0] * many
                    point[at] = number
                    self.assertIsNone(hall.worth(point))
                for number in (-1001, 1001, 10 ** 30, -(10 ** 30), 10 ** 5000):
                    point = [0] * many
                    point[at] = number
                    self.refused(BadPoint, hall.worth, point)

    def test_lengths(self):
        for many in range(1, 9):
            hall = Hall(many, [])
            for length in range(11):
                if length == many:
                    self.assertEqual(hall.worth([1] * length), 0)
                else:
                    self.refused(BadPoint, hall.worth, [1] * length)

    def test_no_lists(self):
        for value in NO_LISTS + [(1,), (1, 2)]:
            for many in (1, 2, 3):
                with self.subTest(value=value):
                    self.refused(BadPoint, Hall(many, []).worth, value)

    def test_no_numbers_among_them(self):
        for value in NO_NUMBERS:
            for at in range(3):
                point = [0, 0, 0]
                point[at] = value
                with self.subTest(point=point):
                    self.refused(BadPoint, Hall(3, []).worth, point)

    def test_what_is_no_point_is_refused_though_it_would_be_barred(self):
        hall = Hall(2, [Wall(0, 1, 2)], 0, 5)
        self.assertIsNone(hall.worth([3, 0]))
        for point in ([3, True], [3, None], [1001, 0], [6, 1001], [-1, "0"], [3], [3, 0, 0], (3, 0)):
            self.refused(BadPoint, hall.worth, point)


class WorthTest(unittest.TestCase):
    def test_by_hand(self):
        hall = Hall(3, [Slope(0, -3), Aim(1, 5, 2), Near(0, 1, 1, 4), Ahead(1, 2, 2), Times(Square(2, 1), 3)], -2, 6)
        # -3 * 2, 2 * 1, 4 * |2 - 4 - 1|, 0, 3 * 2 * 2
        self.assertEqual(hall.worth([2, 4, 3]), -6 + 2 + 12 + 0 + 12)
        self.assertEqual(hall.worth([-2, 2, 0]), 6 + 6 + 20 + 0 + 3)
        self.assertIsNone(hall.worth([2, 4, 1]))
        self.assertIsNone(hall.worth([7, 4, 3]))
        self.assertIsNone(hall.worth([2, 4, -3]))

    def test_pairs_in_either_turn(self):
        for one, other, point in ((0, 1, [7, 3]), (1, 0, [3, 7])):
            self.assertEqual(Hall(2, [Near(one, other, 1, 5)]).worth(point), 15)
            self.assertEqual(Hall(2, [Near(one, other, -1, 5)]).worth(point), 25)
            self.assertEqual(Hall(2, [Gaps(one, other, 3, [4, 1, 0])]).worth(point), 1)
            self.assertIsNone(Hall(2, [Gaps(one, other, -5, [4, 1, 0])]).worth(point))
            self.assertEqual(Hall(2, [Ahead(one, other, 4)]).worth(point), 0)
            self.assertIsNone(Hall(2, [Ahead(one, other, 3)]).worth(point))
            self.assertEqual(Hall(2, [Moved(Near(one, other), 1)]).worth(point), 3)

    def test_without_parts(self):
        for many in range(1, 9):
            hall = Hall(many, [], -3, 4)
            self.assertEqual(hall.worth([-3] * many), 0)
            self.assertEqual(hall.worth([4] * many), 0)
            for at in range(many):
                for number in (-4, 5):
                    self.assertIsNone(hall.worth([0] * at + [number] + [0] * (many - at - 1)))

    def test_barred_by_one_of_many_parts(self):
        for at in range(24):
            parts = [Slope(0, 1)] * 24
            parts[at] = Wall(0, 3, 4)
            hall = Hall(1, parts)
            self.assertEqual([hall.worth([number]) for number in (2, 3, 4, 5)], [None, 69, 92, None])

    def test_the_same_part_twice(self):
        part = Square(0, 1, 2)
        self.assertEqual(Hall(1, [part, part]).worth([4]), 36)

    def test_drawn_halls(self):
        for seed in range(400):
            plan = drawn_hall(seed)
            hall = plan.hall()
            for point in Plan(plan.many, [], plan.low - 1, plan.high + 1).points():
                self.assertEqual(hall.worth(point), plan.worth(point), (plan, point))

    def test_the_greatest_halls(self):
        hall = Hall(8, [greatest_part(at) for at in range(24)], -50, 50)
        point = [50, -50] * 4
        self.assertEqual(hall.worth(point), sum(greatest_worth(at, point) for at in range(24)))


def greatest_part(at):
    """Parts of the greatest weights, wrapped as often as may be."""
    place, other = at % 8, (at + 1) % 8
    part = [Slope(place, 1000), Square(place, -100, 1000), Near(place, other, 100, 1000)][at % 3]
    for wrap in range(8):
        part = Times(part, 100) if wrap % 2 else Moved(part, 100)
    return part


def greatest_worth(at, point):
    here, there = point[at % 8] - 400, point[at % 8] - point[(at + 1) % 8] - 400
    return 100 ** 4 * 1000 * [here, (here + 100) ** 2, abs(there - 100)][at % 3]


class OwnTest(unittest.TestCase):
    def test_the_list_of_parts_changed_behind_the_making(self):
        first, second = Slope(0, 5), Wall(0, 2, 9)
        parts = [first, second]
        hall = Hall(1, parts)
        parts.append(Slope(0, 100))
        parts[1] = Wall(0, 0, 0)
        self.assertEqual(hall.worth([3]), 15)
        self.assertEqual(hall.parts(), [first, second])
        parts.clear()
        self.assertEqual(hall.worth([3]), 15)
        self.assertIsNone(hall.worth([0]))

    def test_the_list_handed_in_is_not_changed(self):
        parts = [Slope(0, 5), Wall(0, 2, 9)]
        before = list(parts)
        hall = Hall(1, parts)
        hall.worth([3])
        hall.parts().append(1)
        self.assertEqual(parts, before)

    def test_the_told_parts_are_the_askers_own(self):
        parts = [Slope(0, 5), Slope(1, 2), Slope(0, 5)]
        hall = Hall(2, parts)
        told = hall.parts()
        self.assertIs(type(told), list)
        self.assertEqual(told, parts)
        told.reverse()
        told.append(Wall(0, 0, 0))
        self.assertEqual(hall.parts(), parts)
        self.assertIsNot(hall.parts(), hall.parts())
        self.assertEqual(hall.worth([1, 1]), 12)

    def test_the_point_is_not_kept_or_changed(self):
        hall = Hall(2, [Slope(0, 5), Near(1, 0)])
        point = [3, 4]
        self.assertEqual(hall.worth(point), 16)
        self.assertEqual(point, [3, 4])
        point[0] = 4
        self.assertEqual(hall.worth(point), 20)

    def test_parts_are_the_very_ones(self):
        parts = [Slope(0, 1), Times(Near(0, 1), 2)]
        for told, part in zip(Hall(2, parts).parts(), parts):
            self.assertIs(told, part)
            self.assertIsInstance(told, Part)


class EvenTest(unittest.TestCase):
    """Point 4: the halves of two points, and the two met and joined."""

    def check_pair(self, plan, hall, one, other):
        both = hall.worth(one) + hall.worth(other)
        halves = [[-(-(a + b) // 2) for a, b in zip(one, other)], [(a + b) // 2 for a, b in zip(one, other)]]
        met = [[min(a, b) for a, b in zip(one, other)], [max(a, b) for a, b in zip(one, other)]]
        for first, second in (halves, met):
            told = [hall.worth(first), hall.worth(second)]
            self.assertNotIn(None, told, (plan, one, other))
            self.assertLessEqual(sum(told), both, (plan, one, other))

    def test_drawn_halls(self):
        rng = random.Random(4)
        for seed in range(600):
            plan = drawn_hall(seed)
            hall = plan.hall()
            free = [list(point) for point in plan.worths()]
            for _ in range(40 if free else 0):
                self.check_pair(plan, hall, rng.choice(free), rng.choice(free))


if __name__ == "__main__":
    unittest.main()
