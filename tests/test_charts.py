"""Points 1 and 9 of DOC.md, and evenbend/charts.py."""

import inspect
import itertools
import random
import time
import unittest

from evenbend import charts
from evenbend.answers import Least
from evenbend.charts import Chart, charted
from evenbend.errors import BadChart, BadHall, BadPoint, Crooked
from evenbend.halls import Hall
from evenbend.least import least
from evenbend.pairs import Ahead, Gaps, Near
from evenbend.parts import Aim, Row, Slope, Square, Wall
from evenbend.wraps import Moved, Times
from tests.drawn import Plan, drawn_hall, highest_of, lowest_of
from tests.test_refusals import NO_LISTS, NO_NUMBERS

GREATEST = 10 ** 30


def points_of(sizes):
    return list(itertools.product(*[range(size) for size in sizes]))


def crooked_pair(sizes, worths):
    """The first two points whose halves are worth more than they are, by the words of the document; or None."""
    points = points_of(sizes)
    worth = dict(zip(points, worths, strict=True))
    for one, other in itertools.combinations(points, 2):
        up = tuple(-(-(a + b) // 2) for a, b in zip(one, other))
        down = tuple((a + b) // 2 for a, b in zip(one, other))
        if worth[up] + worth[down] > worth[one] + worth[other]:
            return list(one), list(other)
    return None


class ChartCase(unittest.TestCase):
    def refused(self, kind, call, *handed):
        with self.assertRaises(kind) as caught:
            call(*handed)
        self.assertIs(type(caught.exception), kind)
        return caught.exception

    def check(self, sizes, worths):
        """Whether the worths are a chart; they are one just if all pairs of points say so."""
        pair = crooked_pair(sizes, worths)
        if pair is not None:
            told = self.refused(Crooked, Chart, sizes, worths)
            self.assertEqual((told.one, told.other), pair, (sizes, worths))
            self.assertEqual({type(told.one), type(told.other)}, {list})
            return False
        self.check_chart(Chart(sizes, worths), sizes, worths)
        return True

    def check_chart(self, chart, sizes, worths):
        points = points_of(sizes)
        for point, worth in zip(points, worths, strict=True):
            self.assertEqual(chart.worth(list(point)), worth)
        told = chart.least()
        ends = [point for point, worth in zip(points, worths) if worth == min(worths)]
        self.assertIs(type(told), Least)
        self.assertEqual((told.lowest, told.highest, told.total), (lowest_of(ends), highest_of(ends), min(worths)))
        self.assertIn(tuple(told.lowest), ends)
        self.assertIn(tuple(told.highest), ends)
        self.assertEqual({type(told.lowest), type(told.highest)}, {list})


class InterfaceTest(unittest.TestCase):
    def test_the_class_and_its_methods(self):
        self.assertEqual(Chart.__module__, "evenbend.charts")
        self.assertIs(charts.Chart, Chart)
        self.assertEqual(Chart.__bases__, (object,))
        for name, told in (("__init__", "(self, sizes, worths)"), ("worth", "(self, point)"), ("least", "(self)")):
            self.assertEqual(str(inspect.signature(vars(Chart)[name])), told)
        self.assertEqual(charted.__module__, "evenbend.charts")
        self.assertEqual(str(inspect.signature(charted)), "(hall)")

    def test_arguments_by_name(self):
        chart = Chart(sizes=[2], worths=[3, 4])
        self.assertEqual(chart.worth(point=[1]), 4)
        self.assertEqual(charted(hall=Hall(1, [], 0, 1)).worth([1]), 0)


class BoundTest(ChartCase):
    def test_all_sizes(self):
        for many in range(1, 4):
            for sizes in itertools.product(range(1, 5), repeat=many):
                count = len(points_of(sizes))
                self.assertTrue(self.check(list(sizes), [7] * count))
                for other in (0, count - 1, count + 1, 2 * count, 65, 1000):
                    if other != count:
                        self.refused(BadChart, Chart, list(sizes), [7] * other)

    def test_no_sizes(self):
        for sizes in ([], [1, 1, 1, 1], [2] * 8, [0], [5], [-1], [1, 0], [0, 1], [1, 1, 5], [10 ** 30], [10 ** 5000],
                      [-2, -2]):
            for count in (0, 1, 4):
                self.refused(BadChart, Chart, sizes, [0] * count)
        for value in NO_NUMBERS:
            for sizes in ([value], [value, 1], [1, value], [1, 1, value]):
                self.refused(BadChart, Chart, sizes, [0])
        for value in NO_LISTS + [(1,), {1: 1}, "1"]:
            self.refused(BadChart, Chart, value, [0])

    def test_no_worths(self):
        for value in NO_NUMBERS:
            for at in range(3):
                worths = [0, 0, 0]
                worths[at] = value
                self.refused(BadChart, Chart, [3], worths)
        for value in NO_LISTS + [(0,), {0: 0}, "0"]:
            self.refused(BadChart, Chart, [1], value)

    def test_the_bounds_of_worths(self):
        for worth in (-GREATEST, -GREATEST + 1, GREATEST - 1, GREATEST):
            self.assertEqual(Chart([1], [worth]).worth([0]), worth)
            self.assertTrue(self.check([2, 2], [worth] * 4))
        for worth in (-GREATEST - 1, GREATEST + 1, 10 ** 31, -(10 ** 31), 10 ** 5000, -(10 ** 5000)):
            for at in range(4):
                worths = [0] * 4
                worths[at] = worth
                self.refused(BadChart, Chart, [2, 2], worths)
        self.assertTrue(self.check([3], [GREATEST, -GREATEST, GREATEST]))
        self.assertFalse(self.check([3], [-GREATEST, GREATEST, -GREATEST]))
        self.assertTrue(self.check([3], [-GREATEST, 0, GREATEST]))
        self.assertFalse(self.check([3], [-GREATEST, 1, GREATEST]))

    def test_bad_chart_goes_first(self):
        self.assertFalse(self.check([4], [0, 5, 0, 0]))
        for worths in ([0, 5, 0, GREATEST + 1], [0, 5, 0, None], [0, 5, 0, True], [0, 5, 0], [0, 5, 0, 0, 0],
                       (0, 5, 0, 0)):
            self.refused(BadChart, Chart, [4], worths)
        self.refused(BadChart, Chart, (4,), [0, 5, 0, 0])
        self.refused(BadChart, Chart, [4, True], [0, 5, 0, 0])


class EvenTest(ChartCase):
    def crooked(self, sizes, worths, one, other):
        told = self.refused(Crooked, Chart, sizes, worths)
        self.assertEqual((told.one, told.other), (one, other))
        self.assertFalse(self.check(sizes, worths))

    def test_by_hand(self):
        self.assertTrue(self.check([4], [4, 1, 0, 3]))
        self.crooked([4], [4, 1, 1, 0], [1], [3])
        self.crooked([4], [0, 1, 0, 1], [0], [2])
        # The halves of the first and the last of four are the two between.
        self.crooked([4], [0, 0, 1, 0], [0], [3])
        # One up and the other down: the halves of these two are the other two.
        self.assertTrue(self.check([2, 2], [0, 1, 1, 0]))
        self.assertTrue(self.check([2, 2], [1, 0, 0, -1]))
        self.crooked([2, 2], [1, 0, 0, 0], [0, 1], [1, 0])
        self.crooked([3, 1, 2], [0, 0, 0, 1, 0, 2], [0, 0, 1], [1, 0, 0])
        self.crooked([1, 2, 3], [0, 0, 0, 0, 0, 1], [0, 0, 2], [0, 1, 1])

    def test_all_small_charts(self):
        seen = {True: 0, False: 0}
        for sizes, most in (([3], 4), ([4], 3), ([1, 3], 3), ([2, 2], 4), ([2, 1, 2], 3), ([3, 2], 2), ([2, 2, 2], 1)):
            for worths in itertools.product(range(most + 1), repeat=len(points_of(sizes))):
                seen[self.check(sizes, list(worths))] += 1
        self.assertGreater(min(seen.values()), 100)

    def test_worths_drawn_at_will(self):
        rng = random.Random(9)
        for _ in range(300):
            sizes = [rng.randint(1, 4) for _ in range(rng.randint(1, 3))]
            most = rng.choice([1, 3, 100, GREATEST])
            self.check(sizes, [rng.randint(-most, most) for _ in points_of(sizes)])

    def test_worths_of_drawn_halls_with_one_of_them_changed(self):
        seen = {True: 0, False: 0}
        for seed in range(400):
            sizes, worths = drawn_worths(seed)
            if worths is None:
                continue
            rng = random.Random(seed)
            self.assertTrue(self.check(sizes, worths))
            for change in (-5, -1, 1, 2, 9):
                changed = list(worths)
                changed[rng.randrange(len(changed))] += change
                seen[self.check(sizes, changed)] += 1
        self.assertGreater(min(seen.values()), 100)

    def test_sums_of_parts_of_unlike_sizes(self):
        rng = random.Random(3)
        for _ in range(150):
            sizes = [rng.randint(1, 4) for _ in range(3)]
            weights = [rng.randint(0, 9) for _ in range(5)]
            slopes = [rng.randint(-9, 9) for _ in range(3)]
            worths = [even_worth(point, weights, slopes) for point in points_of(sizes)]
            self.assertTrue(self.check(sizes, worths))
            worths[rng.randrange(len(worths))] += rng.choice([-30, -3, 3, 30])
            self.check(sizes, worths)


def even_worth(point, weights, slopes):
    """The worth of some slopes, nears and squares."""
    a, b, c = point
    told = weights[0] * abs(a - b) + weights[1] * abs(b - c + 1) + weights[2] * (a - c) ** 2
    return told + weights[3] * (a - 1) ** 2 + weights[4] * abs(b - 2) + slopes[0] * a + slopes[1] * b + slopes[2] * c


def drawn_worths(seed):
    """The sizes and the worths of a drawn hall, or None if a point of it is barred."""
    plan = drawn_hall(seed, most_high=3)
    worths = [plan.worth(point) for point in plan.points()]
    return [plan.high - plan.low + 1] * plan.many, None if None in worths else worths


class PointTest(ChartCase):
    def test_no_points(self):
        for sizes in ([1], [4], [2, 3], [1, 1, 1], [4, 4, 4], [3, 1, 2]):
            chart = Chart(sizes, [5] * len(points_of(sizes)))
            for length in range(6):
                if length != len(sizes):
                    self.refused(BadPoint, chart.worth, [0] * length)
            for at, size in enumerate(sizes):
                for number in (-1, -size, size, size + 1, 4, -4, 1000, 10 ** 30, -(10 ** 30), *NO_NUMBERS):
                    point = [0] * len(sizes)
                    point[at] = number
                    self.refused(BadPoint, chart.worth, point)
            for value in NO_LISTS + [(0,), (0, 0), (0, 0, 0), {0: 0}, "0", "00"]:
                self.refused(BadPoint, chart.worth, value)

    def test_no_other_point_is_meant(self):
        # By place in the list, [0, 4] would be the same as [1, 1].
        chart = Chart([3, 3], [0, 1, 4, 1, 2, 5, 4, 5, 8])
        self.refused(BadPoint, chart.worth, [0, 4])
        self.refused(BadPoint, chart.worth, [1, -1])
        self.refused(BadPoint, chart.worth, [2, 3])
        self.assertEqual(chart.worth([1, 2]), 5)
        self.assertEqual(chart.worth([2, 0]), 4)


class OwnTest(ChartCase):
    def test_sizes_and_worths_changed_behind_the_making(self):
        sizes, worths = [2, 2], [0, 3, 3, 4]
        chart = Chart(sizes, worths)
        sizes[0] = 4
        sizes.append(2)
        worths[0] = 99
        worths.clear()
        self.check_chart(chart, [2, 2], [0, 3, 3, 4])
        self.refused(BadPoint, chart.worth, [2, 0])

    def test_nothing_is_changed(self):
        sizes, worths, point = [2, 2], [0, 3, 3, 4], [1, 0]
        chart = Chart(sizes, worths)
        chart.worth(point)
        chart.least()
        self.assertEqual((sizes, worths, point), ([2, 2], [0, 3, 3, 4], [1, 0]))

    def test_what_is_told_is_the_askers_own(self):
        chart = Chart([2, 2], [0, 3, 3, 4])
        told = chart.least()
        self.assertIsNot(told.lowest, told.highest)
        told.lowest[0] = 9
        told.highest.clear()
        self.assertEqual((chart.least().lowest, chart.least().highest), ([0, 0], [0, 0]))
        self.assertIsNot(chart.least(), chart.least())

    def test_the_points_of_crooked_are_the_askers_own(self):
        worths = [0, 5, 0]
        told = self.refused(Crooked, Chart, [3], worths)
        told.one.append(9)
        self.assertEqual(told.other, [2])
        self.assertEqual(worths, [0, 5, 0])
        told = self.refused(Crooked, Chart, [3], worths)
        self.assertEqual((told.one, told.other), ([0], [2]))


class ChartedTest(ChartCase):
    def test_drawn_halls(self):
        seen = 0
        for seed in range(600):
            sizes, worths = drawn_worths(seed)
            plan = drawn_hall(seed, most_high=3)
            if worths is None:
                self.refused(BadHall, charted, plan.hall())
                continue
            seen += 1
            chart = charted(plan.hall())
            self.assertIs(type(chart), Chart)
            self.check_chart(chart, sizes, worths)
            self.refused(BadPoint, chart.worth, [sizes[0]] + [0] * (plan.many - 1))
            ends, told = least(plan.hall()), chart.least()
            self.assertEqual([at + plan.low for at in told.lowest], ends.lowest)
            self.assertEqual([at + plan.low for at in told.highest], ends.highest)
            self.assertEqual(told.total, ends.total)
        self.assertGreater(seen, 200)

    def test_a_low_that_is_not_nought(self):
        chart = charted(Hall(2, [Slope(0, 3), Square(1, -49)], -50, -47))
        self.assertEqual(chart.worth([0, 0]), -150 + 1)
        self.assertEqual(chart.worth([3, 1]), -141)
        chart = charted(Hall(1, [Slope(0, 3)], 47, 50))
        self.assertEqual([chart.worth([at]) for at in range(4)], [141, 144, 147, 150])
        self.refused(BadPoint, chart.worth, [47])
        self.refused(BadPoint, chart.worth, [4])
        self.assertEqual(charted(Hall(3, [], -1, -1)).worth([0, 0, 0]), 0)

    def test_too_many_places(self):
        for many in range(1, 9):
            hall = Hall(many, [], 5, 5)
            if many <= 3:
                self.assertEqual(charted(hall).worth([0] * many), 0)
            else:
                self.refused(BadHall, charted, hall)

    def test_too_wide(self):
        for many in range(1, 4):
            for wide in range(101):
                hall = Hall(many, [], -50, -50 + wide)
                if wide <= 3:
                    self.assertEqual(charted(hall).worth([wide] * many), 0)
                else:
                    self.refused(BadHall, charted, hall)
        self.refused(BadHall, charted, Hall(1, []))

    def test_a_barred_point(self):
        for part in (Wall(0, 0, 2), Wall(1, 1, 3), Row(0, 0, [0] * 3), Ahead(0, 1, 2), Gaps(1, 0, -3, [0] * 6),
                     Times(Wall(1, 0, 2), 3), Moved(Wall(1, 0, 3), 1)):
            self.refused(BadHall, charted, Hall(2, [part], 0, 3))
            self.refused(BadHall, charted, Hall(2, [Slope(0, 1), part, Slope(0, 1)], 0, 3))
        for part in (Wall(0, 0, 3), Row(0, -1, [0] * 5), Ahead(0, 1, 3), Gaps(1, 0, -3, [0] * 7),
                     Moved(Wall(1, -1, 3), 1)):
            self.assertEqual(charted(Hall(2, [part], 0, 3)).worth([3, 0]), 0)
        self.refused(BadHall, charted, Hall(1, [Wall(0, 2, 4), Wall(0, 5, 9)], 2, 5))

    def test_no_halls(self):
        for hall in (None, True, 3, "", "places 1 from 0 to 1", [], {}, Slope(0, 1), Hall, Chart([1], [0])):
            self.refused(BadHall, charted, hall)

    def test_the_hall_stays_as_it_was(self):
        parts = [Slope(0, 3), Aim(1, 2), Near(0, 1)]
        hall = Hall(2, parts, 1, 3)
        chart = charted(hall)
        parts.clear()
        self.assertEqual(len(hall.parts()), 3)
        self.assertEqual(chart.worth([0, 0]), 3 + 1 + 0)

    def test_the_greatest_worths(self):
        part, near = Square(0, -100, 1000), Near(2, 1, -100, 1000)
        for _ in range(8):
            part, near = Times(part, 100), Times(near, 100)
        start = time.process_time()
        chart = charted(Hall(3, [part] * 12 + [near] * 12, 47, 50))
        self.assertEqual(chart.worth([3, 0, 3]), 12 * 1000 * 100 ** 8 * (150 ** 2 + 103))
        self.assertEqual(chart.least().lowest, [0, 3, 0])
        self.assertLess(time.process_time() - start, 10)

    def test_charts_of_plans(self):
        parts = [("square", 0, 1, 2), ("near", 0, 2, -1, 3), ("slope", 1, -4), ("moved", 2, ("aim", 2, 0, 5))]
        plan = Plan(3, parts, -2, 1)
        worths = [plan.worth(point) for point in plan.points()]
        self.check_chart(charted(plan.hall()), [4, 4, 4], worths)
        self.assertTrue(self.check([4, 4, 4], worths))


if __name__ == "__main__":
    unittest.main()
