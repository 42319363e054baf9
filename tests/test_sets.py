"""Points 1 and 6 of DOC.md, and evenbend/sets.py."""

import inspect
import itertools
import random
import unittest

from evenbend import sets
from evenbend.errors import BadPoint
from evenbend.halls import Hall
from evenbend.pairs import Ahead, Gaps, Near
from evenbend.parts import Aim, Row, Slope, Square, Wall
from evenbend.sets import best_down, best_up, climb, fall
from evenbend.wraps import Moved, Times
from tests.drawn import drawn_hall, highest_of, lowest_of
from tests.test_refusals import NO_LISTS, NO_NUMBERS

ALL = [best_up, best_down, climb, fall]
BESTS = [(best_up, 1), (best_down, -1)]
WALKS = [(climb, best_up, 1), (fall, best_down, -1)]


def moved(point, places, by):
    return [number + by if place in places else number for place, number in enumerate(point)]


def best_sets(plan, point, by):
    """All best sets, by trying all sets, and the worth then."""
    told = {}
    for length in range(plan.many + 1):
        for places in itertools.combinations(range(plan.many), length):
            worth = plan.worth(moved(point, places, by))
            if worth is not None:
                told[places] = worth
    least = min(told.values())
    return [list(places) for places in told if told[places] == least], least


def wide_plan(seed):
    """A drawn hall of up to five places with a drawn point that isn't barred, or None."""
    plan = drawn_hall(seed, most_places=5, most_high=7, most_parts=9)
    rng = random.Random(seed)
    for _ in range(60):
        point = [rng.randint(plan.low, plan.high) for _ in range(plan.many)]
        if plan.worth(point) is not None:
            return plan, point
    return plan, None


class InterfaceTest(unittest.TestCase):
    def test_the_functions(self):
        for function in ALL:
            self.assertEqual(function.__module__, "evenbend.sets")
            self.assertIs(getattr(sets, function.__name__), function)
            self.assertEqual(str(inspect.signature(function)), "(hall, point)")


class RefusalTest(unittest.TestCase):
    def refused(self, hall, point):
        for function in ALL:
            with self.subTest(function.__name__, point=point):
                with self.assertRaises(BadPoint) as caught:
                    function(hall, point)
                self.assertIs(type(caught.exception), BadPoint)

    def test_no_points(self):
        hall = Hall(2, [Slope(0, 1)])
        for value in NO_LISTS + [[], [1], [1, 1, 1], (1, 1), [1, 1001], [-1001, 1], [10 ** 30, 1]]:
            self.refused(hall, value)
        for value in NO_NUMBERS:
            self.refused(hall, [value, 1])
            self.refused(hall, [1, value])

    def test_barred_points(self):
        for point in ([-1, 0], [0, -1], [21, 0], [0, 21], [1000, -1000]):
            self.refused(Hall(2, []), point)
        self.refused(Hall(2, [Wall(0, 1, 2)]), [0, 5])
        self.refused(Hall(2, [Slope(0, -9), Wall(1, 1, 2)]), [0, 3])
        self.refused(Hall(2, [Row(0, 3, [1, 2])]), [2, 5])
        self.refused(Hall(2, [Ahead(0, 1, -1)]), [5, 5])
        self.refused(Hall(2, [Gaps(1, 0, 0, [0, 0])]), [5, 4])
        self.refused(Hall(2, [Moved(Times(Ahead(1, 0, 1), 9), 1)]), [5, 8])

    def test_no_halls(self):
        for hall in (None, True, 3, "", [], {}, Slope(0, 1), Hall):
            self.refused(hall, [0])


class BestTest(unittest.TestCase):
    def test_by_hand(self):
        hall = Hall(3, [Slope(0, -3), Slope(1, 2), Slope(2, 0), Ahead(0, 1, 0)], 0, 5)
        # The first may not go ahead of the second, so both rise, at a gain of 1.
        self.assertEqual(best_up(hall, [1, 1, 1]), ([0, 1], 3 * -1 + 2 * 1 - 1))
        self.assertEqual(best_up(hall, [1, 2, 1]), ([0], -2))
        self.assertEqual(best_up(hall, [5, 5, 1]), ([], -5))
        self.assertEqual(best_down(hall, [1, 1, 1]), ([], -1))
        self.assertEqual(best_down(hall, [1, 3, 1]), ([1], 1))

    def test_of_several_the_one_within_all_others(self):
        hall = Hall(4, [Slope(0, -1), Near(0, 2, 0, 5), Slope(3, -2)], 0, 9)
        self.assertEqual(best_up(hall, [4, 4, 4, 4]), ([0, 2, 3], -4 - 8 - 3))
        self.assertEqual(best_up(Hall(8, []), [3] * 8), ([], 0))
        self.assertEqual(best_down(Hall(8, []), [3] * 8), ([], 0))
        self.assertEqual(best_up(Hall(2, [Slope(0, 1), Slope(1, -1), Near(0, 1)]), [4, 4]), ([], 0))

    def test_at_the_edges_of_the_hall(self):
        hall = Hall(2, [Slope(0, -1), Slope(1, -1)], -50, 50)
        self.assertEqual(best_up(hall, [50, 49]), ([1], -100))
        self.assertEqual(best_up(hall, [50, 50]), ([], -100))
        hall = Hall(2, [Slope(0, 1), Slope(1, 1)], -50, 50)
        self.assertEqual(best_down(hall, [-49, -50]), ([0], -100))
        self.assertEqual(best_down(hall, [-50, -50]), ([], -100))
        self.assertEqual(best_up(Hall(1, [Slope(0, -1)], 7, 7), [7]), ([], -7))

    def test_a_ring_of_aheads_moves_together(self):
        parts = [Ahead(at, (at + 1) % 8, 0) for at in range(8)] + [Slope(5, -1000)]
        self.assertEqual(best_up(Hall(8, parts), [3] * 8), (list(range(8)), -4000))
        self.assertEqual(best_down(Hall(8, parts), [3] * 8), ([], -3000))

    def test_against_all_sets(self):
        checked = 0
        for seed in range(1200):
            plan, point = wide_plan(seed)
            if point is None:
                continue
            for function, by in BESTS:
                best, worth = best_sets(plan, point, by)
                within = [place for place in range(plan.many) if all(place in places for places in best)]
                self.assertIn(within, best)
                told = function(plan.hall(), point)
                self.assertEqual(told, (within, worth), (plan, point, by))
                self.assertIs(type(told), tuple)
                self.assertIs(type(told[0]), list)
            checked += 1
        self.assertGreater(checked, 600)


class WalkTest(unittest.TestCase):
    def check_walk(self, plan, point, worths):
        least = [list(at) for at in worths if worths[at] == min(worths.values())]
        hall = plan.hall()
        for walk, best, by in WALKS:
            at = list(point)
            told = walk(hall, point)
            for places in told:
                self.assertTrue(places)
                self.assertEqual(places, sorted(set(places)))
                self.assertEqual(places, best(hall, at)[0])
                at = moved(at, places, by)
            self.assertEqual(best(hall, at)[0], [])
            on_side = [end for end in least if all(by * (a - b) >= 0 for a, b in zip(end, point))]
            if on_side:
                end = lowest_of(on_side) if by == 1 else highest_of(on_side)
                self.assertEqual(at, end, (plan, point, by))
                self.assertEqual(len(told), max(abs(a - b) for a, b in zip(end, point)), (plan, point, by))

    def test_drawn_halls(self):
        for seed in range(500):
            plan = drawn_hall(seed)
            worths = plan.worths()
            points = [list(point) for point in worths]
            for point in random.Random(seed).sample(points, min(6, len(points))):
                self.check_walk(plan, point, worths)

    def test_whoever_raises_any_of_the_best_sets(self):
        for seed in range(250):
            plan = drawn_hall(seed)
            worths = plan.worths()
            points = [list(point) for point in worths]
            for point in random.Random(seed).sample(points, min(3, len(points))):
                self.check_any(plan, point, worths, random.Random(seed))

    def check_any(self, plan, point, worths, rng):
        for walk, _, by in WALKS:
            least = [at for at in worths if worths[at] == min(worths.values())]
            if not any(all(by * (a - b) >= 0 for a, b in zip(end, point)) for end in least):
                continue
            at, steps = list(point), 0
            best, _ = best_sets(plan, at, by)
            while [] not in best:
                at, steps = moved(at, rng.choice(best), by), steps + 1
                best, _ = best_sets(plan, at, by)
            self.assertIn(tuple(at), least)
            self.assertEqual(steps, len(walk(plan.hall(), point)))

    def test_by_hand(self):
        hall = Hall(3, [Aim(0, 3), Aim(1, 1), Aim(2, 2)], -5, 5)
        self.assertEqual(climb(hall, [0, 0, 0]), [[0, 1, 2], [0, 2], [0]])
        self.assertEqual(fall(hall, [0, 0, 0]), [])
        self.assertEqual(fall(hall, [5, 1, 3]), [[0, 2], [0]])
        self.assertEqual(climb(hall, [3, 1, 2]), [])

    def test_where_no_least_point_is_on_that_side(self):
        hall = Hall(2, [Aim(0, 3, 2), Near(0, 1, 0, 1), Aim(1, 3, 2)], 0, 9)
        self.assertEqual(climb(hall, [5, 0]), [[1], [1], [1]])
        self.assertEqual(fall(hall, [5, 0]), [[0], [0]])
        self.assertEqual(climb(hall, [9, 9]), [])

    def test_from_edge_to_edge(self):
        parts = [Slope(at, -1) for at in range(8)] + [Ahead(at, (at + 1) % 8, 1) for at in range(8)]
        self.assertEqual(climb(Hall(8, parts, -50, 50), [-50] * 8), [list(range(8))] * 100)
        parts = [Square(at, -100) for at in range(8)]
        self.assertEqual(fall(Hall(8, parts, -50, 50), [50] * 8), [list(range(8))] * 100)


class OwnTest(unittest.TestCase):
    def test_the_point_stays_as_it_was(self):
        hall = Hall(2, [Slope(0, -1), Slope(1, 1)])
        for function in ALL:
            point = [5, 5]
            function(hall, point)
            self.assertEqual(point, [5, 5])

    def test_what_is_told_is_the_askers_own(self):
        hall = Hall(2, [Slope(0, -1), Slope(1, 1)], 0, 4)
        for function in (best_up, best_down):
            places, _ = function(hall, [2, 2])
            places.append(99)
            self.assertNotIn(99, function(hall, [2, 2])[0])
        for function in (climb, fall):
            told = function(hall, [2, 2])
            self.assertEqual(len(told), 2)
            told[0].append(99)
            self.assertNotIn(99, told[1])
            told.clear()
            self.assertEqual(len(function(hall, [2, 2])), 2)
            self.assertNotIn(99, function(hall, [2, 2])[0])

    def test_the_parts_are_asked_anew(self):
        parts = [Slope(0, -1)]
        hall = Hall(1, parts)
        parts[0] = Slope(0, 1)
        self.assertEqual(best_up(hall, [3]), ([0], -4))


if __name__ == "__main__":
    unittest.main()
