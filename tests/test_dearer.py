"""Points 1 and 8 of DOC.md, and evenbend/dearer.py."""

import inspect
import random
import time
import unittest

from evenbend.dearer import dearer
from evenbend.errors import BadHall, BadNumber
from evenbend.halls import Hall
from evenbend.least import least
from evenbend.pairs import Ahead, Near
from evenbend.parts import Aim, Slope, Square, Wall
from evenbend.wraps import Moved, Times
from tests.drawn import drawn_hall, lowest_of
from tests.test_least import BARRED, greatest_hall
from tests.test_refusals import NO_LISTS, NO_NUMBERS


def lowest_with(worths, place, weight):
    """The lowest least point with one slope more, by the worths of all points; None if all are barred."""
    if not worths:
        return None
    told = {point: worth + weight * point[place] for point, worth in worths.items()}
    total = min(told.values())
    return lowest_of([point for point in told if told[point] == total])


def drawn_weights(rng):
    """Weights in any order, some of them twice, small ones and the greatest."""
    weights = [rng.randint(-12, 12) for _ in range(rng.randint(0, 9))] + [rng.randint(-1000, 1000)]
    weights += rng.sample([-1000, -999, 0, 999, 1000], 2) + weights[:2]
    rng.shuffle(weights)
    return weights


class InterfaceTest(unittest.TestCase):
    def test_the_function(self):
        self.assertEqual(dearer.__module__, "evenbend.dearer")
        self.assertEqual(str(inspect.signature(dearer)), "(hall, place, weights)")


class RefusalTest(unittest.TestCase):
    def refused(self, hall, place, weights):
        with self.subTest(place=place, weights=weights):
            with self.assertRaises(BadNumber) as caught:
                dearer(hall, place, weights)
            self.assertIs(type(caught.exception), BadNumber)

    def test_places(self):
        for many in range(1, 9):
            hall = Hall(many, [], 2, 4)
            for place in range(many):
                self.assertEqual(dearer(hall, place, [1]), [[2] * many])
            for place in (-1, many, -many, many + 1, 8, 10 ** 30, -(10 ** 30), 10 ** 5000):
                self.refused(hall, place, [1])
                self.refused(hall, place, [])
            for value in NO_NUMBERS:
                self.refused(hall, value, [1])

    def test_weights(self):
        hall = Hall(2, [], 2, 4)
        self.assertEqual(dearer(hall, 0, [-1000, 1000, -999, 999, 0]), [[4, 2], [2, 2], [4, 2], [2, 2], [2, 2]])
        for weight in (-1001, 1001, 10 ** 30, -(10 ** 30), 10 ** 5000):
            for weights in ([weight], [0, weight], [weight, 0], [0] * 100 + [weight]):
                self.refused(hall, 0, weights)
        for value in NO_NUMBERS:
            for weights in ([value], [0, value], [value, 0]):
                self.refused(hall, 0, weights)

    def test_no_lists(self):
        for value in NO_LISTS + [(), (1,), {}, {0: 1}]:
            self.refused(Hall(2, []), 0, value)

    def test_refused_also_where_all_points_are_barred(self):
        for plan in BARRED:
            hall = plan.hall()
            self.refused(hall, plan.many, [1])
            self.refused(hall, 0, [1001])
            self.refused(hall, 0, (1,))
            self.refused(hall, True, [1])

    def test_no_halls(self):
        for hall in (None, True, 3, "", [], {}, Slope(0, 1), Hall):
            self.refused(hall, 0, [1])


class DearerTest(unittest.TestCase):
    def test_by_hand(self):
        hall = Hall(2, [Aim(0, 5, 3), Near(0, 1, 0, 1), Slope(1, -1)], 0, 9)
        # The second place goes with the first, at a gain of 1, so that the first gains 4 up to 5, and loses 2 above.
        self.assertEqual(dearer(hall, 0, [3, 4, 0, -2, -3, 3]), [[5, 5], [0, 0], [5, 5], [5, 5], [9, 9], [5, 5]])
        # The near holds the second place by 1, but the aim holds the first by 3.
        self.assertEqual(dearer(hall, 1, [0, 1, 2, -1, 1000]), [[5, 5], [5, 5], [5, 0], [5, 9], [5, 0]])
        hall = Hall(1, [Square(0, 3)], -9, 9)
        expected = [[at] for at in (6, 6, 5, 5, 4, 4, 3, 3, 2, 2, 1, 1, 0, 0, -1)]
        self.assertEqual(dearer(hall, 0, list(range(-7, 8))), expected)

    def test_no_weights(self):
        self.assertEqual(dearer(Hall(2, [Slope(0, 1)]), 1, []), [])
        for plan in BARRED:
            self.assertEqual(dearer(plan.hall(), 0, []), [])

    def test_a_weight_of_nought_is_the_hall_itself(self):
        for seed in range(200):
            hall = drawn_hall(seed).hall()
            told = least(hall)
            lowest = told.lowest if hasattr(told, "lowest") else None
            self.assertEqual(dearer(hall, 0, [0]), [lowest])

    def test_against_all_points(self):
        barred = 0
        for seed in range(900):
            plan = drawn_hall(seed)
            worths = plan.worths()
            rng = random.Random(seed)
            barred += not worths
            for place in range(plan.many):
                weights = drawn_weights(rng)
                expected = [lowest_with(worths, place, weight) for weight in weights]
                self.assertEqual(dearer(plan.hall(), place, weights), expected, (plan, place, weights))
        self.assertGreater(barred, 40)

    def test_against_all_points_of_more_places(self):
        for seed in range(60):
            plan = drawn_hall(seed, most_places=5, most_high=3, most_parts=12)
            worths = plan.worths()
            rng = random.Random(seed)
            place = rng.randrange(plan.many)
            weights = drawn_weights(rng) + list(range(-8, 9))
            expected = [lowest_with(worths, place, weight) for weight in weights]
            self.assertEqual(dearer(plan.hall(), place, weights), expected, (plan, place, weights))

    def test_all_points_barred(self):
        for plan in BARRED:
            for place in range(plan.many):
                self.assertEqual(dearer(plan.hall(), place, [5, -5, 5]), [None, None, None])

    def test_the_more_the_weight_the_lower(self):
        for seed in range(300):
            plan = drawn_hall(seed, most_places=6, most_high=17, most_parts=14)
            hall = plan.hall()
            for place in range(plan.many):
                told = dearer(hall, place, list(range(-15, 16)) + [200, 1000])
                if told[0] is not None:
                    self.check_falls(place, told)

    def check_falls(self, place, told):
        for point, then in zip(told, told[1:]):
            falls = [before - after for before, after in zip(point, then)]
            self.assertGreaterEqual(min(falls), 0)
            self.assertEqual(max(falls), falls[place])

    def test_one_of_twenty_four_parts(self):
        parts = [Slope(0, 1)] * 12 + [Aim(1, 5)] * 11 + [Near(0, 1, 0, 10)]
        hall = Hall(2, parts, 0, 9)
        # Up to 5 the first place gains 12 and loses 10 by each step, from there on it gains 22.
        self.assertEqual(dearer(hall, 0, [0, -2, -3, -22, -23, 1000]), [[0, 5], [0, 5], [5, 5], [5, 5], [9, 5], [0, 5]])
        self.assertEqual(hall.parts(), parts)
        with self.assertRaises(BadHall):
            Hall(2, hall.parts() + [Slope(0, 0)], 0, 9)


class StaysTest(unittest.TestCase):
    def test_the_hall_stays_as_it_was(self):
        for seed in range(150):
            plan = drawn_hall(seed)
            hall = plan.hall()
            parts = hall.parts()
            before = least(hall)
            dearer(hall, plan.many - 1, [-1000, 3, 1000, -7])
            self.assertEqual(hall.parts(), parts)
            self.assertEqual(vars(least(hall)), vars(before))
            for point in plan.points():
                self.assertEqual(hall.worth(point), plan.worth(point))
            self.assertEqual(dearer(hall, 0, [4, -4]), dearer(hall, 0, [4]) + dearer(hall, 0, [-4]))

    def test_the_weights_stay_as_they_were(self):
        weights = [5, -3, 5, 0, -1000]
        dearer(Hall(2, [Aim(0, 3)]), 0, weights)
        self.assertEqual(weights, [5, -3, 5, 0, -1000])

    def test_what_is_told_is_the_askers_own(self):
        hall = Hall(2, [Aim(0, 3)])
        told = dearer(hall, 0, [0, 0, -1, 0])
        self.assertEqual(told, [[3, 0], [3, 0], [3, 0], [3, 0]])
        told[0].append(99)
        told[1][0] = 7
        self.assertEqual(told[2:], [[3, 0], [3, 0]])
        told.clear()
        self.assertEqual(dearer(hall, 0, [0, 0]), [[3, 0], [3, 0]])


class GreatTest(unittest.TestCase):
    def test_the_greatest_halls_in_a_short_time(self):
        start = time.process_time()
        for seed in range(12):
            hall = greatest_hall(seed)
            told = dearer(hall, seed % 8, list(range(-1000, 1001)))
            self.assertEqual(len(told), 2001)
            ends = least(hall)
            self.assertEqual(told[1000], ends.lowest if hasattr(ends, "lowest") else None)
        self.assertLess(time.process_time() - start, 60)

    def test_from_edge_to_edge_of_the_widest_hall(self):
        # By each step of the weight the places fall by one, all of them.
        parts = [Times(Square(0, 0, 1), 5)] + [Ahead(at, (at + 1) % 8, 0) for at in range(8)]
        start = time.process_time()
        told = dearer(Hall(8, parts, -50, 50), 3, list(range(-1000, 1001)) * 20)
        self.assertEqual(told, [[lowest_of_square(weight)] * 8 for weight in range(-1000, 1001)] * 20)
        self.assertLess(time.process_time() - start, 60)

    def test_wrapped_as_often_as_may_be(self):
        part = Slope(0, -1)
        for _ in range(3):
            part = Moved(part, 100)
        wall = Wall(1, 0, 3)
        for _ in range(8):
            wall = Times(wall, 100)
        self.assertEqual(dearer(Hall(2, [part, wall], 0, 5), 0, [0, 1, 2]), [[5, 0], [0, 0], [0, 0]])
        for _ in range(5):
            part = Times(part, 100)
        self.assertEqual(dearer(Hall(2, [part, wall], 0, 5), 0, [0, 1, 1000]), [[5, 0]] * 3)


def lowest_of_square(weight):
    """The lowest of those from -50 to 50 whose square, five times, and weight times them are least."""
    return min(range(-50, 51), key=lambda number: (5 * number * number + weight * number, number))


if __name__ == "__main__":
    unittest.main()
