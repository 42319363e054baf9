"""Points 1, 5 and 7 of DOC.md, and evenbend/streams.py."""

import inspect
import random
import time
import unittest

from evenbend.answers import Better, Stream
from evenbend.errors import BadPoint
from evenbend.halls import Hall
from evenbend.least import least
from evenbend.pairs import Ahead, Gaps, Near
from evenbend.parts import Aim, Row, Slope, Square, Wall
from evenbend.streams import looked
from evenbend.wraps import Moved, Times
from tests.drawn import Plan, drawn_hall, limits_of, places_of, read_of, worth_of
from tests.test_least import greatest_hall
from tests.test_refusals import NO_LISTS, NO_NUMBERS

FAR = 130


def let_read(part):
    """All numbers that the part lets be read, or those not too far away, and two that are very far away."""
    least_read, greatest_read = limits_of(part)
    low = -FAR if least_read is None else least_read
    high = FAR if greatest_read is None else greatest_read
    far = [-(10 ** 7)] if least_read is None else []
    return far + list(range(low, high + 1)) + ([10 ** 7] if greatest_read is None else [])


def wrong_part(plan, point, numbers):
    """The first part whose number is more than what is gained, for some number that it lets be read; or None."""
    for at, (part, number) in enumerate(zip(plan.plans, numbers, strict=True)):
        reads = read_of(part, point)
        worth = worth_of(part, reads)
        for then in let_read(part):
            if number * (then - reads) > worth_of(part, then) - worth:
                return at
    return None


def wrong_place(plan, point, numbers):
    """The first place at which the numbers don't come to what they have to; or None."""
    for place in range(plan.many):
        total = 0
        for part, number in zip(plan.plans, numbers, strict=True):
            places = places_of(part)
            total += number if places[0] == place else 0
            total -= number if places[1:] == [place] else 0
        may_be_more, may_be_less = point[place] == plan.low, point[place] == plan.high
        if total > 0 and not may_be_more or total < 0 and not may_be_less:
            return place
    return None


class LookedCase(unittest.TestCase):
    def check(self, plan, hall, point, total):
        """Of a point that isn't barred, where the least worth is known."""
        told = looked(hall, list(point))
        worth = plan.worth(list(point))
        if worth == total:
            self.check_stream(plan, hall, list(point), told)
        else:
            self.check_better(plan, hall, list(point), told, worth)
        return type(told)

    def check_stream(self, plan, hall, point, told):
        self.assertIs(type(told), Stream, (plan, point))
        self.assertIs(type(told.numbers), list)
        self.assertEqual(len(told.numbers), len(plan.plans))
        self.assertEqual({type(number) for number in told.numbers} - {int}, set())
        self.assertIsNone(wrong_part(plan, point, told.numbers), (plan, point, told.numbers))
        self.assertIsNone(wrong_place(plan, point, told.numbers), (plan, point, told.numbers))
        self.assertIs(told.shows(hall, point), True)

    def check_better(self, plan, hall, point, told, worth):
        self.assertIs(type(told), Better, (plan, point))
        self.assertIs(type(told.places), list)
        self.assertIn(told.up, (True, False))
        self.assertIs(type(told.up), bool)
        self.assertTrue(told.places)
        self.assertEqual(told.places, sorted(set(told.places)))
        self.assertLessEqual(set(told.places), set(range(plan.many)))
        step = 1 if told.up else -1
        then = plan.worth([number + step * (place in told.places) for place, number in enumerate(point)])
        self.assertIsNotNone(then, (plan, point))
        self.assertLess(then, worth, (plan, point))
        self.assertIs(told.shows(hall, point), True)

    def check_all_points(self, plan):
        """Look at all points; tell how many streams and how many sets there were."""
        worths = plan.worths()
        hall = plan.hall()
        kinds = [self.check(plan, hall, point, min(worths.values())) for point in worths]
        for point in plan.points():
            if tuple(point) not in worths:
                with self.assertRaises(BadPoint):
                    looked(hall, point)
        return kinds.count(Stream), kinds.count(Better)


class InterfaceTest(unittest.TestCase):
    def test_the_function(self):
        self.assertEqual(looked.__module__, "evenbend.streams")
        self.assertEqual(str(inspect.signature(looked)), "(hall, point)")


class RefusalTest(unittest.TestCase):
    def refused(self, hall, point):
        with self.subTest(point=point):
            with self.assertRaises(BadPoint) as caught:
                looked(hall, point)
            self.assertIs(type(caught.exception), BadPoint)

    def test_no_points(self):
        hall = Hall(2, [Slope(0, 1)])
        for value in NO_LISTS + [[], [1], [1, 1, 1], (1, 1), [1, 1001], [-1001, 1], [10 ** 30, 1]]:
            self.refused(hall, value)
        for value in NO_NUMBERS:
            self.refused(hall, [value, 1])
            self.refused(hall, [1, value])

    def test_barred_points(self):
        for point in ([-1, 0], [0, -1], [21, 0], [0, 21], [1000, -1000]):
            self.refused(Hall(2, []), point)
        self.refused(Hall(2, [Wall(0, 1, 2)]), [0, 5])
        self.refused(Hall(2, [Row(0, 3, [1, 2])]), [2, 5])
        self.refused(Hall(2, [Ahead(0, 1, -1)]), [5, 5])
        self.refused(Hall(2, [Gaps(1, 0, 0, [0, 0])]), [5, 4])
        self.refused(Hall(2, [Moved(Times(Ahead(1, 0, 1), 9), 1)]), [5, 8])
        self.refused(Hall(1, [Wall(0, 2, 4), Wall(0, 5, 9)]), [4])

    def test_no_halls(self):
        for hall in (None, True, 3, "", [], {}, Slope(0, 1), Hall):
            self.refused(hall, [0])


class ByHandTest(LookedCase):
    def test_the_only_stream(self):
        hall = Hall(2, [Aim(0, 3, 2), Near(0, 1, 0, 3), Slope(1, -1)], 0, 9)
        self.assertEqual(looked(hall, [3, 3]).numbers, [1, -1, -1])
        self.assertEqual(looked(Hall(1, [Slope(0, 5), Slope(0, -5)]), [7]).numbers, [5, -5])
        self.assertEqual(looked(Hall(1, [Slope(0, -5), Wall(0, 1, 3)]), [3]).numbers, [-5, 5])
        self.assertEqual(looked(Hall(1, [Slope(0, 5), Wall(0, 1, 3)]), [1]).numbers, [5, -5])
        self.assertEqual(looked(Hall(2, [Slope(0, -5), Ahead(0, 1, 2), Aim(1, 3, 9)]), [5, 3]).numbers, [-5, 5, 5])
        self.assertEqual(looked(Hall(2, [Slope(0, 5), Gaps(0, 1, 2, [7]), Slope(1, -5)]), [5, 3]).numbers, [5, -5, -5])

    def test_the_only_set(self):
        hall = Hall(3, [Slope(0, -3), Slope(1, 2), Ahead(0, 1, 0), Square(2, 2)], 0, 5)
        told = looked(hall, [2, 2, 2])
        self.assertEqual((told.places, told.up), ([0, 1], True))
        told = looked(Hall(2, [Slope(1, 3), Aim(0, 4)]), [4, 1])
        self.assertEqual((told.places, told.up), ([1], False))

    def test_without_parts(self):
        for many in range(1, 9):
            for low, high in ((0, 20), (-50, 50), (7, 7)):
                hall = Hall(many, [], low, high)
                for point in ([low] * many, [high] * many, [low, high] * (many // 2) + [high] * (many % 2)):
                    told = looked(hall, point)
                    self.assertIs(type(told), Stream)
                    self.assertEqual(told.numbers, [])
                    self.assertTrue(told.shows(hall, point))

    def test_at_the_low_and_the_high(self):
        parts = [("slope", 0, 7), ("slope", 1, -7), ("near", 0, 1, 0, 2), ("aim", 2, 1, 3), ("near", 1, 2, 0, 9)]
        for low, high in ((0, 3), (-2, 0), (1, 2), (2, 2), (-1, -1), (-50, -50), (50, 50)):
            streams, _ = self.check_all_points(Plan(3, parts, low, high))
            self.assertGreater(streams, 0)

    def test_where_low_and_high_are_one(self):
        for seed in range(80):
            plan = drawn_hall(seed, most_places=8, most_high=0, most_parts=12)
            streams, betters = self.check_all_points(plan)
            self.assertEqual((streams, betters), (len(plan.worths()), 0))

    def test_what_bars_the_next_number(self):
        for parts in (
            [("wall", 0, 1, 2), ("wall", 1, 0, 1), ("near", 0, 1, 0, 5), ("slope", 0, -9), ("slope", 1, 4)],
            [("row", 0, 1, (9,)), ("row", 1, 0, (5, 0, 0)), ("slope", 0, 900), ("slope", 1, -900)],
            [("ahead", 0, 1, 0), ("ahead", 1, 0, 0), ("slope", 0, -9), ("slope", 1, 8)],
            [("ahead", 0, 1, -1), ("ahead", 1, 2, -1), ("slope", 0, -9), ("slope", 1, 2), ("slope", 2, 3)],
            [("gaps", 0, 1, -1, (4, 0, 4)), ("gaps", 1, 2, 0, (-7,)), ("aim", 2, 0, 5), ("slope", 0, -20)],
            [("moved", 2, ("times", 3, ("wall", 0, -1, 0))), ("times", 9, ("moved", -1, ("ahead", 0, 1, 1))),
             ("slope", 0, -100), ("slope", 1, 99)],
            [("times", 50, ("row", 0, 0, (3, 1, 0, 2))), ("moved", 1, ("gaps", 1, 0, -2, (8, 0, 0))),
             ("moved", 3, ("square", 1, -2, 20))],
        ):
            with self.subTest(parts=parts):
                streams, betters = self.check_all_points(Plan(3, parts, 0, 3))
                self.assertGreater(streams, 0)

    def test_a_chain_of_eight(self):
        plan = Plan(8, [("slope", 0, -7)] + [("near", at, at + 1, 0, 7) for at in range(7)] + [("slope", 7, 7)], 0, 9)
        hall = plan.hall()
        for number in range(10):
            self.check(plan, hall, [number] * 8, 0)
        self.assertEqual(looked(hall, [4] * 8).numbers, [-7] + [7] * 7 + [7])


class AgainstAllPointsTest(LookedCase):
    def test_drawn_halls(self):
        seen = [0, 0]
        for seed in range(500):
            streams, betters = self.check_all_points(drawn_hall(seed))
            seen = [seen[0] + streams, seen[1] + betters]
        self.assertGreater(min(seen), 500)

    def test_drawn_halls_of_more_places(self):
        for seed in range(60):
            self.check_all_points(drawn_hall(seed, most_places=5, most_high=2, most_parts=14))

    def test_drawn_halls_of_eight_places(self):
        rng = random.Random(8)
        checked = 0
        for seed in range(400):
            plan = drawn_hall(seed, most_places=8, most_high=1, most_parts=20)
            if plan.many > 6 and rng.random() < 0.5:
                self.check_all_points(plan)
                checked += 1
        self.assertGreater(checked, 20)


def steep_plan(seed):
    """A wide hall with great weights, of which least points are known by the program alone."""
    rng = random.Random(seed)
    plans = []
    for _ in range(24):
        one, other = rng.sample(range(8), 2)
        plan = rng.choice([
            ("slope", one, rng.randint(-1000, 1000)), ("aim", one, rng.randint(-60, 60), rng.randint(0, 1000)),
            ("square", one, rng.randint(-60, 60), rng.randint(0, 30)), ("near", one, other, rng.randint(-9, 9), 700),
            ("ahead", one, other, rng.randint(0, 40)), ("gaps", one, other, -20, tuple(abs(at) for at in range(-20, 20))),
            ("wall", one, -30, 30),
        ])
        for _ in range(rng.randint(0, 3)):
            plan = ("times", rng.randint(1, 100), plan)
        plans.append(plan)
    return Plan(8, plans, -50, 50)


class GreatTest(LookedCase):
    def test_wide_halls(self):
        checked = 0
        for seed in range(40):
            plan = steep_plan(seed)
            hall = plan.hall()
            told = least(hall)
            if not hasattr(told, "total"):
                continue
            checked += 1
            middle = [(a + b) // 2 for a, b in zip(told.lowest, told.highest)]
            for point in (told.lowest, told.highest, middle):
                self.assertIs(self.check(plan, hall, point, told.total), Stream)
            for at in range(8):
                for by in (-1, 1):
                    point = list(told.lowest)
                    point[at] += by
                    if hall.worth(point) is not None:
                        self.check(plan, hall, point, told.total)
        self.assertGreater(checked, 10)

    def test_the_greatest_halls_in_a_short_time(self):
        start = time.process_time()
        for seed in range(40):
            hall = greatest_hall(seed)
            told = least(hall)
            if hasattr(told, "total"):
                for point in (told.lowest, told.highest):
                    stream = looked(hall, point)
                    self.assertIs(type(stream), Stream)
                    self.assertTrue(stream.shows(hall, point))
        self.assertLess(time.process_time() - start, 60)

    def test_the_greatest_numbers(self):
        # A slope of 1000 * 100 ** 8 that is held at seven places more, by a square of which that is less than a step.
        slope = Slope(0, -1000)
        square = Square(7, -100, 1000)
        for _ in range(8):
            slope, square = Times(slope, 100), Times(square, 100)
        hall = Hall(8, [slope] + [Gaps(at, at + 1, 0, [0]) for at in range(7)] + [square], -50, 50)
        told = looked(hall, [-50] * 8)
        self.assertIs(type(told), Stream)
        self.assertTrue(told.shows(hall, [-50] * 8))
        self.assertEqual((told.numbers[0]), -1000 * 100 ** 8)


class OwnTest(unittest.TestCase):
    def test_the_point_and_the_hall_stay_as_they_were(self):
        parts = [Aim(0, 3, 2), Near(0, 1, 0, 3), Slope(1, -1)]
        hall = Hall(2, parts, 0, 9)
        for point in ([3, 3], [0, 0], [9, 9], [4, 2]):
            before = list(point)
            looked(hall, point)
            self.assertEqual(point, before)
        self.assertEqual(hall.parts(), parts)
        self.assertEqual(hall.worth([3, 3]), -3)

    def test_what_is_told_is_the_askers_own(self):
        hall = Hall(2, [Aim(0, 3, 2), Near(0, 1, 0, 3), Slope(1, -1)], 0, 9)
        told = looked(hall, [3, 3])
        told.numbers.clear()
        self.assertEqual(looked(hall, [3, 3]).numbers, [1, -1, -1])
        self.assertFalse(told.shows(hall, [3, 3]))
        told = looked(hall, [5, 3])
        before = list(told.places)
        told.places.append(99)
        self.assertEqual(looked(hall, [5, 3]).places, before)

    def test_the_list_of_parts_changed_behind_the_making(self):
        parts = [Slope(0, 5)]
        hall = Hall(1, parts)
        parts[0] = Slope(0, -5)
        parts.append(Slope(0, 1))
        self.assertEqual(looked(hall, [0]).numbers, [5])


if __name__ == "__main__":
    unittest.main()
