"""Points 1 and 5 of DOC.md, and evenbend/least.py."""

import inspect
import itertools
import random
import time
import unittest

from evenbend.answers import Least, Nowhere
from evenbend.halls import Hall
from evenbend.least import least
from evenbend.pairs import Ahead, Near
from evenbend.parts import Aim, Slope, Square
from evenbend.wraps import Moved, Times
from tests.drawn import Plan, drawn_hall, highest_of, is_shown_ring, lowest_of

BARRED = [
    # Walls beyond the high, or the low.
    Plan(1, [("wall", 0, 21, 30)]),
    Plan(1, [("wall", 0, -9, -1)]),
    Plan(2, [("slope", 0, 1), ("wall", 1, 51, 100)], -50, 50),
    Plan(8, [("wall", 7, -100, -51)], -50, 50),
    Plan(1, [("row", 0, 21, (3, 1, 0))]),
    Plan(1, [("row", 0, -3, (3, 1, 0))]),
    Plan(1, [("wall", 0, -3, -2)], -1, -1),
    # Two walls apart.
    Plan(1, [("wall", 0, 2, 4), ("wall", 0, 5, 9)]),
    Plan(3, [("wall", 2, 5, 9), ("aim", 1, 3, 1), ("wall", 2, 2, 4)]),
    Plan(1, [("wall", 0, 2, 4), ("row", 0, 5, (0, 1))]),
    # Rings of aheads.
    Plan(2, [("ahead", 0, 1, -1), ("ahead", 1, 0, 0)]),
    Plan(3, [("ahead", 0, 1, 5), ("ahead", 1, 2, -3), ("ahead", 2, 0, -3)]),
    Plan(8, [("ahead", at, (at + 1) % 8, 1 if at else -8) for at in range(8)], -50, 50),
    # Aheads from the low to the high.
    Plan(8, [("ahead", at, at + 1, -3) for at in range(7)]),
    Plan(2, [("ahead", 0, 1, -21)]),
    Plan(2, [("ahead", 1, 0, -100)], -50, 49),
    # Gaps, also with nears, which ask nothing.
    Plan(2, [("gaps", 0, 1, 3, (1, 0)), ("gaps", 1, 0, -2, (0, 1))]),
    Plan(2, [("gaps", 0, 1, 21, (1, 0))]),
    Plan(2, [("gaps", 0, 1, -30, (1, 0))]),
    Plan(3, [("near", 0, 1, 9, 1000), ("gaps", 0, 1, 2, (0,)), ("gaps", 1, 2, 2, (0,)), ("gaps", 0, 2, 5, (0,))]),
    # Wrapped parts.
    Plan(1, [("moved", 20, ("times", 3, ("wall", 0, 1, 2)))]),
    Plan(1, [("moved", -3, ("moved", -3, ("row", 0, 2, (1, 0, 0, 1))))]),
    Plan(2, [("times", 9, ("moved", -30, ("ahead", 0, 1, 9)))]),
    Plan(2, [("moved", 5, ("gaps", 0, 1, 0, (0, 0))), ("wall", 0, 0, 4)]),
]


class InterfaceTest(unittest.TestCase):
    def test_the_function(self):
        self.assertEqual(least.__module__, "evenbend.least")
        self.assertEqual(str(inspect.signature(least)), "(hall)")


class LeastTest(unittest.TestCase):
    def check_least(self, plan, told, worths):
        total = min(worths.values())
        points = [list(point) for point in worths if worths[point] == total]
        self.assertIs(type(told), Least)
        self.assertEqual(told.total, total, plan)
        self.assertEqual(told.lowest, lowest_of(points), plan)
        self.assertEqual(told.highest, highest_of(points), plan)
        self.assertIn(told.lowest, points)
        self.assertIn(told.highest, points)

    def check_nowhere(self, plan, told):
        self.assertIs(type(told), Nowhere)
        self.assertTrue(is_shown_ring(plan, told.demands), (plan, told.demands))
        self.assertIs(told.shows(plan.hall()), True)
        self.assertEqual({type(demand) for demand in told.demands}, {tuple})

    def test_against_all_points(self):
        barred = 0
        for seed in range(2500):
            plan = drawn_hall(seed)
            worths = plan.worths()
            told = least(plan.hall())
            if worths:
                self.check_least(plan, told, worths)
            else:
                barred += 1
                self.check_nowhere(plan, told)
        self.assertGreater(barred, 100)

    def test_against_all_points_of_more_places(self):
        for seed in range(60):
            plan = drawn_hall(seed, most_places=5, most_high=3, most_parts=12)
            worths = plan.worths()
            told = least(plan.hall())
            if worths:
                self.check_least(plan, told, worths)
            else:
                self.check_nowhere(plan, told)

    def test_all_barred(self):
        for plan in BARRED:
            with self.subTest(plan=plan):
                self.check_nowhere(plan, least(plan.hall()))

    def test_barely_not_all_barred(self):
        for plan, lowest, highest in (
            (Plan(1, [("wall", 0, 20, 30)]), [20], [20]),
            (Plan(1, [("wall", 0, -9, 0)]), [0], [0]),
            (Plan(1, [("wall", 0, 2, 5), ("wall", 0, 5, 9)]), [5], [5]),
            (Plan(2, [("ahead", 0, 1, -1), ("ahead", 1, 0, 1)]), [0, 1], [19, 20]),
            (Plan(3, [("ahead", 0, 1, 6), ("ahead", 1, 2, -3), ("ahead", 2, 0, -3)]), [6, 0, 3], [20, 14, 17]),
            (Plan(8, [("ahead", at, at + 1, -3) for at in range(7)], 0, 21), list(range(0, 22, 3)),
             list(range(0, 22, 3))),
            (Plan(2, [("ahead", 0, 1, -20)]), [0, 20], [0, 20]),
            (Plan(2, [("gaps", 0, 1, 3, (0, 0)), ("gaps", 1, 0, -3, (0, 1))]), [3, 0], [20, 17]),
        ):
            with self.subTest(plan=plan):
                told = least(plan.hall())
                self.assertIs(type(told), Least)
                self.assertEqual((told.lowest, told.highest, told.total), (lowest, highest, 0))

    def test_without_parts(self):
        for many in range(1, 9):
            for low, high in ((0, 20), (-50, 50), (7, 7)):
                told = least(Hall(many, [], low, high))
                self.assertEqual((told.lowest, told.highest, told.total), ([low] * many, [high] * many, 0))

    def test_by_hand(self):
        told = least(Hall(2, [Aim(0, 3), Aim(0, 7), Near(0, 1, 1, 5)], 0, 9))
        self.assertEqual((told.lowest, told.highest, told.total), ([3, 2], [7, 6], 4))
        told = least(Hall(1, [Aim(0, 30)]))
        self.assertEqual((told.lowest, told.highest, told.total), ([20], [20], 10))
        told = least(Hall(2, [Square(0, 3), Slope(0, -5)], -50, 50))
        self.assertEqual((told.lowest, told.highest, told.total), ([5, -50], [6, 50], -21))

    def test_what_is_told_is_the_askers_own(self):
        hall = Hall(2, [Aim(0, 3), Near(0, 1)], 3, 3)
        told = least(hall)
        self.assertIsNot(told.lowest, told.highest)
        told.lowest.append(9)
        self.assertEqual(told.highest, [3, 3])
        self.assertEqual(least(hall).lowest, [3, 3])
        barred = Plan(2, [("ahead", 0, 1, -21)]).hall()
        least(barred).demands.clear()
        self.assertTrue(least(barred).shows(barred))


def greatest_hall(seed):
    """A hall as great as it may be, with the greatest weights, wrapped as often as may be."""
    rng = random.Random(seed)
    parts = []
    for _ in range(24):
        one, other = rng.sample(range(8), 2)
        part = rng.choice([
            Slope(one, rng.choice([-1000, 1000])), Square(one, rng.randint(-100, 100), 1000),
            Near(one, other, rng.randint(-30, 30), 1000), Aim(one, rng.randint(-100, 100), 1000),
            Ahead(one, other, rng.randint(0, 100)),
        ])
        for wrap in range(8):
            part = Times(part, 100) if rng.random() < 0.6 else Moved(part, (-1) ** wrap * rng.randint(0, 100))
        parts.append(part)
    return Hall(8, parts, -50, 50)


class GreatTest(unittest.TestCase):
    def test_the_greatest_halls_in_a_short_time(self):
        start = time.process_time()
        kinds = []
        for seed in range(40):
            hall = greatest_hall(seed)
            told = least(hall)
            kinds.append(type(told))
            if type(told) is Nowhere:
                self.assertTrue(told.shows(hall))
                continue
            self.check_ends(hall, told)
        self.assertGreater(kinds.count(Least), 10)
        # It takes a few seconds on a slow machine; a program that tries points would never end.
        self.assertLess(time.process_time() - start, 60)

    def check_ends(self, hall, told):
        # Worths bend evenly: what no set betters is least, and where no set keeps the worth the least points end.
        for end, inward in ((told.lowest, 1), (told.highest, -1)):
            self.assertEqual(hall.worth(end), told.total)
            for places in itertools.product((0, 1), repeat=8):
                out = hall.worth([number - inward * place for number, place in zip(end, places)])
                back = hall.worth([number + inward * place for number, place in zip(end, places)])
                self.assertTrue(out is None or out > told.total or not any(places))
                self.assertTrue(back is None or back >= told.total)

    def test_from_edge_to_edge_of_the_widest_hall(self):
        for way in (-1000, 1000):
            parts = [Slope(at, way) for at in range(8)] + [Ahead(at, (at + 1) % 8, 0) for at in range(8)]
            parts += [Times(Near(at, (at + 3) % 8, 0, 1000), 100) for at in range(8)]
            told = least(Hall(8, parts, -50, 50))
            end = 50 if way < 0 else -50
            self.assertEqual((told.lowest, told.highest, told.total), ([end] * 8, [end] * 8, -50 * 8000))


if __name__ == "__main__":
    unittest.main()
