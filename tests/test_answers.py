"""Points 1, 5 and 7 of DOC.md, as far as they speak of answers, and evenbend/answers.py."""

import inspect
import itertools
import random
import unittest

from evenbend import answers
from evenbend.answers import Answer, Better, Least, Nowhere, Stream
from evenbend.halls import Hall
from evenbend.least import least
from evenbend.pairs import Ahead, Gaps, Near
from evenbend.parts import Aim, Row, Slope, Square, Wall
from evenbend.wraps import Moved, Times
from tests.drawn import Plan, drawn_hall, is_shown_ring, places_of, read_of, worth_of
from tests.test_least import BARRED


class InterfaceTest(unittest.TestCase):
    def test_the_classes(self):
        self.assertEqual(Answer.__bases__, (object,))
        for kind in (Answer, Least, Nowhere, Stream, Better):
            self.assertEqual(kind.__module__, "evenbend.answers")
            self.assertIs(getattr(answers, kind.__name__), kind)
        for kind in (Least, Nowhere, Stream, Better):
            self.assertEqual(kind.__bases__, (Answer,))

    def test_methods_and_arguments(self):
        self.assertEqual(str(inspect.signature(Least)), "(lowest, highest, total)")
        self.assertEqual(str(inspect.signature(Nowhere)), "(demands)")
        self.assertEqual(str(inspect.signature(Stream)), "(numbers)")
        self.assertEqual(str(inspect.signature(Better)), "(places, up)")
        self.assertEqual(str(inspect.signature(vars(Nowhere)["shows"])), "(self, hall)")
        for kind in (Stream, Better):
            self.assertEqual(str(inspect.signature(vars(kind)["shows"])), "(self, hall, point)")

    def test_fields(self):
        told = Least(lowest=[1, 2], highest=[3, 4], total=-7)
        self.assertEqual((told.lowest, told.highest, told.total), ([1, 2], [3, 4], -7))
        self.assertEqual(Nowhere(demands=[(0, -1, 3)]).demands, [(0, -1, 3)])
        self.assertEqual(Stream(numbers=[3, -1]).numbers, [3, -1])
        for up in (True, False):
            told = Better(places=[0, 3], up=up)
            self.assertEqual(told.places, [0, 3])
            self.assertIs(told.up, up)

    def test_lists_are_copied(self):
        one, other = [1, 2], [3, 4]
        told = Least(one, other, 0)
        one.append(9)
        other[0] = 9
        self.assertEqual((told.lowest, told.highest), ([1, 2], [3, 4]))
        told.lowest.clear()
        told.highest.clear()
        self.assertEqual((one, other), ([1, 2, 9], [9, 4]))
        for make, field, handed in ((Nowhere, "demands", [(0, -1, 3)]), (Stream, "numbers", [5]),
                                    (lambda places: Better(places, True), "places", [2])):
            before = list(handed)
            told = make(handed)
            handed.append(handed[0])
            self.assertEqual(getattr(told, field), before)
            getattr(told, field).clear()
            self.assertEqual(handed, before * 2)


class RingTest(unittest.TestCase):
    """Nowhere.shows."""

    def check(self, plan, demands):
        told = Nowhere(demands).shows(plan.hall())
        self.assertIs(told, is_shown_ring(plan, demands), (plan, demands))
        return told

    def test_by_hand_at_one_place(self):
        hall = Hall(2, [Wall(0, 2, 4), Wall(0, 5, 9), Slope(1, 3)])
        for demands, expected in (
            ([(0, -1, 4), (-1, 0, -5)], True),
            ([(-1, 0, -5), (0, -1, 4)], True),
            ([(0, -1, 5), (-1, 0, -5)], False),
            ([(0, -1, 3), (-1, 0, -5)], False),
            ([(0, -1, 4), (-1, 0, -6)], False),
            ([(0, -1, 4), (-1, 0, -4)], False),
            ([(0, -1, 9), (-1, 0, -5)], False),
            ([(1, -1, 4), (-1, 1, -5)], False),
            ([(0, -1, 4), (-1, 1, -5)], False),
            ([(0, -1, 4)], False),
            ([(-1, 0, -5)], False),
            ([], False),
            ([(0, -1, 4), (-1, 0, -5), (0, -1, 4), (-1, 0, -5)], True),
            ([(0, -1, 4), (-1, 0, -5), (0, -1, 5), (-1, 0, -5)], True),
            ([(0, -1, 4), (-1, 0, -5), (0, -1, 6), (-1, 0, -5)], False),
            ([(0, -1, 4), (-1, 0, -5), (1, -1, 20), (-1, 1, 0)], False),
        ):
            with self.subTest(demands=demands):
                self.assertIs(Nowhere(demands).shows(hall), expected)

    def test_by_hand_at_two_places(self):
        hall = Hall(3, [Ahead(0, 1, -3), Gaps(2, 1, 2, [0, 1]), Near(0, 2, 0, 9), Moved(Times(Wall(2, 0, 1), 2), 1)])
        for demands, expected in (
            # 0 is at least 3 behind 1, which is at least 2 behind 2, which is no more than 2: 0 is below 0.
            ([(0, 1, -3), (1, 2, -2), (2, -1, 2), (-1, 0, 0)], True),
            ([(2, -1, 2), (-1, 0, 0), (0, 1, -3), (1, 2, -2)], True),
            ([(0, 1, -3), (1, 2, -2), (2, -1, 4), (-1, 0, 0)], True),
            ([(0, 1, -3), (1, 2, -2), (2, -1, 5), (-1, 0, 0)], False),
            ([(0, 1, -3), (1, 2, -2), (2, -1, 1), (-1, 0, 0)], False),
            ([(0, 1, -4), (1, 2, -2), (2, -1, 2), (-1, 0, 0)], False),
            ([(0, 1, -3), (1, 2, -3), (2, -1, 2), (-1, 0, 0)], False),
            ([(0, 1, -3), (1, 2, -2), (2, -1, 2), (-1, 0, -1)], False),
            ([(0, 1, -3), (1, 2, -2), (2, 0, 0)], False),
            ([(1, 0, -3), (0, -1, 0), (-1, 1, 0)], False),
            ([(0, 1, -3), (2, -1, 2), (1, 2, -2), (-1, 0, 0)], False),
        ):
            with self.subTest(demands=demands):
                self.assertIs(Nowhere(demands).shows(hall), expected)

    def test_what_nobody_asks(self):
        plan = Plan(2, [("wall", 0, 2, 4), ("wall", 0, 5, 9)], -8, -6)
        hall = plan.hall()
        self.assertFalse(Nowhere([(-1, -1, -6)]).shows(hall))
        self.assertFalse(Nowhere([(0, 0, -1)]).shows(hall))
        self.assertFalse(Nowhere([(1, 1, -100)]).shows(hall))
        self.assertFalse(Nowhere([(2, -1, -6), (-1, 2, 5)]).shows(hall))
        self.assertFalse(Nowhere([(-2, -1, -9), (-1, -2, 0)]).shows(hall))
        self.assertFalse(Nowhere([(8, 9, -9), (9, 8, 0)]).shows(hall))
        self.assertFalse(Nowhere([(0, -1, -7), (-1, 0, 6)]).shows(hall))
        self.assertTrue(Nowhere([(0, -1, -6), (-1, 0, -5)]).shows(hall))

    def test_a_hall_that_is_not_all_barred_has_no_ring(self):
        hall = Hall(2, [Wall(0, 2, 4), Ahead(0, 1, -2), Ahead(1, 0, 2)])
        demands = [(-1, 0, -2), (0, -1, 4), (0, 1, -2), (1, 0, 2), (-1, 1, 0), (1, -1, 20)]
        for length in range(1, 5):
            for ring in itertools.product(demands, repeat=length):
                self.assertFalse(Nowhere(list(ring)).shows(hall))

    def test_told_rings_changed_by_hand(self):
        seen = {True: 0, False: 0}
        plans = BARRED + [plan for plan in map(drawn_hall, range(1500)) if not plan.worths()]
        for plan in plans:
            ring = least(plan.hall()).demands
            for changed in changed_rings(ring):
                seen[self.check(plan, changed)] += 1
        self.assertGreater(min(seen.values()), 200)

    def test_a_ring_of_another_hall(self):
        plans = BARRED + [drawn_hall(seed) for seed in range(60)]
        rings = [least(plan.hall()).demands for plan in BARRED]
        for plan in plans:
            for ring in rings:
                self.check(plan, ring)

    def test_fields_changed_behind_the_making(self):
        hall = Hall(1, [Wall(0, 2, 4), Wall(0, 5, 9)])
        told = Nowhere([])
        self.assertIs(told.shows(hall), False)
        told.demands = [(0, -1, 4), (-1, 0, -5)]
        self.assertIs(told.shows(hall), True)
        told.demands.append((0, -1, 4))
        self.assertIs(told.shows(hall), False)
        told.demands.append((-1, 0, -5))
        self.assertIs(told.shows(hall), True)
        told.demands[0] = (0, -1, 3)
        self.assertIs(told.shows(hall), False)
        self.assertEqual(told.demands, [(0, -1, 3), (-1, 0, -5), (0, -1, 4), (-1, 0, -5)])

    def test_very_great_numbers(self):
        hall = Hall(1, [Wall(0, 2, 4), Wall(0, 5, 9)])
        self.assertFalse(Nowhere([(0, -1, 10 ** 30), (-1, 0, -5)]).shows(hall))
        self.assertFalse(Nowhere([(0, -1, -(10 ** 30)), (-1, 0, -5)]).shows(hall))
        self.assertFalse(Nowhere([(10 ** 30, -1, 4), (-1, 10 ** 30, -5)]).shows(hall))
        self.assertFalse(Nowhere([(0, 0, -1)] * 10000).shows(hall))
        self.assertTrue(Nowhere([(0, -1, 4), (-1, 0, -5)] * 5000).shows(hall))


def changed_rings(ring):
    """The ring, begun elsewhere, with one demand left out, put in, or changed."""
    told = [ring, [], ring + ring, ring[::-1]]
    for at in range(len(ring)):
        a, b, g = ring[at]
        told += [ring[at:] + ring[:at], ring[:at] + ring[at + 1:], ring[:at] + [ring[at]] + ring[at:]]
        told += [ring[:at] + [(a, b, g + more)] + ring[at + 1:] for more in (-2, -1, 1, 2, 30)]
        told += [ring[:at] + [other] + ring[at + 1:] for other in ((b, a, g), (a + 1, b, g), (a, b + 1, g), (8, b, g))]
        told += [ring[:at] + [(a, -1, 50), (-1, a, 50)] + ring[at:], ring[:at] + [(a, a, 0)] + ring[at:]]
    return told


def is_shown_least(plan, point, numbers):
    """Whether the numbers are a stream that shows the point least, by the words of the document."""
    if plan.worth(point) is None or len(numbers) != len(plan.plans):
        return False
    sums = [0] * plan.many
    for part, number in zip(plan.plans, numbers):
        reads = read_of(part, point)
        for then in range(reads - 20, reads + 21):
            worth = worth_of(part, then)
            if worth is not None and number * (then - reads) > worth - worth_of(part, reads):
                return False
        for place, sign in zip(places_of(part), (1, -1)):
            sums[place] += sign * number
    for place, total in enumerate(sums):
        at_low, at_high = point[place] == plan.low, point[place] == plan.high
        if not (total == 0 or at_low and total > 0 or at_high and total < 0 or at_low and at_high):
            return False
    return True


def borne_numbers(part, reads, most):
    """The numbers that the part bears where it reads so much, those not too far from 0."""
    worth, more, less = [worth_of(part, then) for then in (reads, reads + 1, reads - 1)]
    low = -most if less is None else max(-most, worth - less)
    high = most if more is None else min(most, more - worth)
    return list(range(low, high + 1))


class StreamTest(unittest.TestCase):
    """Stream.shows."""

    def check_all(self, hall, point, told, untold):
        for numbers in told:
            self.assertIs(Stream(numbers).shows(hall, point), True, numbers)
        for numbers in untold:
            self.assertIs(Stream(numbers).shows(hall, point), False, numbers)

    def test_by_hand(self):
        parts = [Aim(0, 3, 2), Near(0, 1, 0, 3), Slope(1, -1)]
        # The second place's slope must be held by the near, and the near by the aim.
        untold = [[0, -1, -1], [2, -1, -1], [1, 0, -1], [1, -2, -1], [1, -1, 0], [1, -1, -2], [2, -2, -1], [-1, 1, -1],
                  [1, 1, -1], [1, -1, 1], [0, 0, 0], [1, 1, 1], [3, -3, -3], [10 ** 30, -(10 ** 30), -(10 ** 30)]]
        self.check_all(Hall(2, parts, 0, 9), [3, 3], [[1, -1, -1]], untold)
        for point in ([4, 4], [2, 2], [3, 4], [4, 3], [9, 9], [0, 0]):
            self.check_all(Hall(2, parts, 0, 9), point, [], [[1, -1, -1]] + untold)

    def test_at_the_high(self):
        hall = Hall(2, [Aim(0, 3, 2), Near(0, 1, 0, 3), Slope(1, -1)], 0, 3)
        told = [[1, -1, -1], [0, -1, -1], [0, 0, -1], [-2, 2, -1], [-2, -1, -1]]
        self.check_all(hall, [3, 3], told, [[2, -2, -1], [1, 0, -1], [-3, 0, -1], [0, 4, -1], [2, -1, -1], [0, 0, 0]])

    def test_at_the_low(self):
        hall = Hall(2, [Aim(0, 3, 2), Near(0, 1, 0, 3), Slope(1, -1)], 3, 9)
        told = [[1, -1, -1], [2, -1, -1], [2, -2, -1], [1, -1, -1]]
        self.check_all(hall, [3, 3], told, [[0, -1, -1], [2, -3, -1], [2, 0, -1], [3, -1, -1], [1, -1, 0]])

    def test_where_low_and_high_are_one(self):
        hall = Hall(2, [Aim(0, 3, 2), Near(0, 1, 0, 3), Slope(1, -1)], 3, 3)
        told = [[1, -1, -1], [0, 0, -1], [2, 3, -1], [-2, -3, -1], [2, -3, -1]]
        self.check_all(hall, [3, 3], told, [[3, 0, -1], [-3, 0, -1], [0, 4, -1], [0, -4, -1], [0, 0, 0], [0, 0, -2]])

    def test_too_few_and_too_many(self):
        hall = Hall(2, [Slope(0, 0), Near(0, 1)])
        self.check_all(hall, [5, 5], [[0, 0]], [[], [0], [0, 0, 0], [0] * 25, [0] * 1000])
        self.check_all(Hall(2, []), [5, 5], [[]], [[0], [0, 0]])

    def test_where_parts_bar(self):
        hall = Hall(2, [Wall(0, 2, 4), Slope(0, 5), Row(1, 3, [7]), Slope(1, -900), Ahead(0, 1, -1),
                        Gaps(0, 1, -1, [0, 3])])
        self.check_all(hall, [2, 3], [[-5, 5, 900, -900, 0, 0], [-6, 5, 901, -900, 1, 0], [-8, 5, 903, -900, 0, 3]],
                       [[5, 5, 900, -900, 0, 0], [-5, 5, 900, -900, -1, 1], [-9, 5, 904, -900, 0, 4],
                        [-5, 5, 899, -900, 0, 0], [0, 5, 895, -900, -5, 0]])
        self.check_all(Hall(1, [Wall(0, 2, 4), Slope(0, -5)]), [4], [[5, -5]], [[-5, 5], [-5, -5], [0, -5], [0, 0]])
        self.check_all(Hall(1, [Wall(0, 2, 4), Slope(0, 0)]), [3], [[0, 0]], [[1, 0], [-1, 0], [0, 1]])

    def test_barred_points_and_no_points(self):
        hall = Hall(2, [Wall(0, 2, 4)], 0, 9)
        self.assertIs(Stream([0]).shows(hall, [2, 0]), True)
        for point in ([1, 0], [5, 0], [2, -1], [2, 10], [2, 1000], [2, 1001], [2, -1001], [2], [], [2, 0, 0]):
            for number in (-1, 0, 1):
                self.assertIs(Stream([number]).shows(hall, point), False)
        self.assertIs(Stream([]).shows(Hall(1, []), [21]), False)

    def test_wrapped_parts(self):
        hall = Hall(1, [Times(Aim(0, 3, 2), 5), Moved(Square(0, 1, 2), 3)], -9, 9)
        # The aim bears -10 to 10 at 3; the square, whose aim is then at 4, -6 to -2 there.
        self.check_all(hall, [3], [[2, -2], [6, -6], [4, -4]], [[1, -1], [7, -7], [-2, 2], [6, -5]])

    def test_numbers_near_those_that_are_borne(self):
        seen = {True: 0, False: 0}
        for seed in range(250):
            plan = drawn_hall(seed, most_places=3, most_high=3, most_parts=4)
            worths = plan.worths()
            rng = random.Random(seed)
            for point in rng.sample(sorted(worths), min(4, len(worths))):
                for numbers in self.near_numbers(plan, list(point), rng):
                    told = Stream(numbers).shows(plan.hall(), list(point))
                    self.assertIs(told, is_shown_least(plan, list(point), numbers), (plan, point, numbers))
                    self.assertTrue(not told or worths[point] == min(worths.values()))
                    seen[told] += 1
        self.assertGreater(min(seen.values()), 200)

    def near_numbers(self, plan, point, rng):
        borne = [borne_numbers(part, read_of(part, point), 6) or [7] for part in plan.plans]
        for _ in range(12):
            numbers = [rng.choice([numbers[0], numbers[-1], rng.choice(numbers)]) for numbers in borne]
            yield numbers
            if numbers:
                at = rng.randrange(len(numbers))
                for more in (-1, 1):
                    yield numbers[:at] + [numbers[at] + more] + numbers[at + 1:]

    def test_just_the_least_points_have_a_stream(self):
        seen = {True: 0, False: 0}
        for seed in range(700):
            plan = drawn_hall(seed, most_places=2, most_high=3, most_parts=3)
            worths = plan.worths()
            hall = plan.hall()
            points = sorted(worths)
            for point in random.Random(seed).sample(points, min(3, len(points))):
                borne = [borne_numbers(part, read_of(part, point), 9) for part in plan.plans]
                streams = (Stream(list(numbers)) for numbers in itertools.product(*borne))
                is_least = worths[point] == min(worths.values())
                if is_least and any(number not in range(-9, 10) for part in plan.plans
                                    for number in borne_numbers(part, read_of(part, point), 999)[:1]):
                    continue
                self.assertIs(any(stream.shows(hall, list(point)) for stream in streams), is_least, (plan, point))
                seen[is_least] += 1
        self.assertGreater(min(seen.values()), 100)

    def test_fields_changed_behind_the_making(self):
        hall = Hall(2, [Slope(0, 2), Slope(1, 3)], 0, 9)
        told = Stream([2, 3])
        self.assertIs(told.shows(hall, [0, 0]), True)
        told.numbers.append(0)
        self.assertIs(told.shows(hall, [0, 0]), False)
        told.numbers.pop()
        told.numbers[1] = 2
        self.assertIs(told.shows(hall, [0, 0]), False)
        told.numbers = [2, 3]
        self.assertIs(told.shows(hall, [0, 0]), True)
        self.assertIs(told.shows(hall, [0, 1]), False)

    def test_nothing_is_changed(self):
        numbers, point = [2, 3], [0, 0]
        told = Stream(numbers)
        told.shows(Hall(2, [Slope(0, 2), Slope(1, 3)], 0, 9), point)
        self.assertEqual((numbers, point, told.numbers), ([2, 3], [0, 0], [2, 3]))


class BetterTest(unittest.TestCase):
    """Better.shows."""

    def check_all(self, hall, point, told, untold):
        for places, up in told:
            self.assertIs(Better(places, up).shows(hall, point), True, (places, up))
        for places, up in untold:
            self.assertIs(Better(places, up).shows(hall, point), False, (places, up))

    def test_by_hand(self):
        hall = Hall(3, [Slope(0, -3), Slope(1, 2), Ahead(0, 1, 0)], 0, 5)
        self.check_all(hall, [2, 2, 2], [([0, 1], True), ([0, 1, 2], True)], [
            ([0], True), ([1], True), ([2], True), ([0, 2], True), ([1, 2], True), ([], True), ([], False),
            ([0], False), ([1], False), ([2], False), ([0, 1], False), ([0, 1, 2], False),
            ([1, 0], True), ([0, 0, 1], True), ([0, 1, 1], True), ([0, 0], True), ([0, 2, 1], True),
            ([0, 1, 3], True), ([-1, 0, 1], True), ([-3, -2], True), ([0, 1, 8], True), ([0, 1, 10 ** 30], True),
        ])
        self.check_all(hall, [2, 4, 2], [([0], True), ([0, 2], True), ([1], False), ([1, 2], False)], [
            ([0], False), ([1], True), ([0, 1], False), ([], True), ([], False), ([2], True), ([2], False),
            ([3], False), ([-2], False), ([1, 1], False), ([2, 1], False), ([-1, 1], False)])

    def test_at_the_edges_of_the_hall(self):
        hall = Hall(2, [Slope(0, -3), Slope(1, 2)], 0, 5)
        self.check_all(hall, [5, 0], [], [([0], True), ([1], False), ([0, 1], True), ([0], False), ([1], True)])
        self.check_all(hall, [4, 1], [([0], True), ([1], False), ([0, 1], True)], [([0, 1], False), ([1], True)])

    def test_to_a_point_that_a_part_bars(self):
        hall = Hall(1, [Slope(0, -3), Wall(0, 2, 4)], 0, 9)
        self.check_all(hall, [4], [], [([0], True), ([0], False)])
        self.check_all(hall, [3], [([0], True)], [([0], False)])

    def test_barred_points_and_no_points(self):
        hall = Hall(2, [Slope(0, -3), Wall(0, 2, 4)], 0, 9)
        for point in ([1, 0], [5, 0], [3, 10], [3, -1], [3, 1000], [3, 1001], [-1001, 3], [3], [], [3, 0, 0]):
            self.check_all(hall, point, [], [([0], True), ([0], False), ([0, 1], True), ([0, 1], False)])

    def test_against_all_sets(self):
        seen = {True: 0, False: 0}
        for seed in range(400):
            plan = drawn_hall(seed)
            hall = plan.hall()
            worths = plan.worths()
            for point in random.Random(seed).sample(sorted(worths), min(3, len(worths))):
                for places, up in itertools.product(short_lists(plan.many), (True, False)):
                    told = Better(places, up).shows(hall, list(point))
                    self.assertIs(told, is_shown_better(plan, list(point), places, up))
                    seen[told] += 1
        self.assertGreater(min(seen.values()), 200)

    def test_fields_changed_behind_the_making(self):
        hall = Hall(2, [Slope(0, 2), Slope(1, -3)], 0, 9)
        told = Better([0], True)
        self.assertIs(told.shows(hall, [4, 4]), False)
        told.up = False
        self.assertIs(told.shows(hall, [4, 4]), True)
        told.places.append(1)
        self.assertIs(told.shows(hall, [4, 4]), False)
        told.up = True
        self.assertIs(told.shows(hall, [4, 4]), True)
        told.places = []
        self.assertIs(told.shows(hall, [4, 4]), False)

    def test_nothing_is_changed(self):
        places, point = [0, 1], [4, 4]
        told = Better(places, True)
        told.shows(Hall(2, [Slope(0, 2), Slope(1, -3)], 0, 9), point)
        self.assertEqual((places, point, told.places, told.up), ([0, 1], [4, 4], [0, 1], True))


def short_lists(many):
    """All lists of at most three places, one below and one above the hall's among them."""
    for length in range(4):
        for places in itertools.product(range(-1, many + 1), repeat=length):
            yield list(places)


def is_shown_better(plan, point, places, up):
    """Whether the set betters the point, by the words of the document."""
    if places == [] or places != sorted(set(places)) or not set(places) <= set(range(plan.many)):
        return False
    worth = plan.worth(point)
    then = plan.worth([number + (1 if up else -1) * places.count(place) for place, number in enumerate(point)])
    return worth is not None and then is not None and then < worth


if __name__ == "__main__":
    unittest.main()
