"""Points 5 to 8 of DOC.md over the whole program: halls turned into others, and what is told of a hall again."""

import random
import unittest

from evenbend.answers import Better, Least, Nowhere, Stream
from evenbend.charts import charted
from evenbend.dearer import dearer
from evenbend.errors import BadHall
from evenbend.least import least
from evenbend.sets import best_down, best_up, climb, fall
from evenbend.streams import looked
from evenbend.texts import read, written
from tests.drawn import Plan, drawn_hall, is_shown_ring
from tests.turned import (
    along,
    along_point,
    beside,
    mirrored,
    mirrored_numbers,
    named,
    named_point,
    named_set,
    often,
    ordered,
    text_of,
)

WEIGHTS = [3, -2, 0, 1000, -5, 3]


def ends_of(plan):
    """The lowest, the highest and their worth, or None of each if all points are barred."""
    told = least(plan.hall())
    if isinstance(told, Nowhere):
        return None, None, None
    return told.lowest, told.highest, told.total


def drawn_halls(seeds, **sizes):
    """Drawn halls, each with a source of chance."""
    for seed in seeds:
        yield drawn_hall(seed, **sizes), random.Random(seed)


def drawn_points(plan, rng, most=4):
    """Some points that aren't barred, and the ends."""
    free = sorted(plan.worths())
    points = [list(point) for point in rng.sample(free, min(most, len(free)))]
    return points + [end for end in ends_of(plan)[:2] if end is not None]


class WholeCase(unittest.TestCase):
    def check_ends(self, plan, turned, change, total):
        """The turned hall's ends are the hall's own, changed."""
        lowest, highest, worth = ends_of(plan)
        if worth is None:
            told = least(turned.hall())
            self.assertIs(type(told), Nowhere)
            self.assertTrue(is_shown_ring(turned, told.demands), (turned, told.demands))
        else:
            self.assertEqual(ends_of(turned), (change(lowest), change(highest), total(worth)), (plan, turned))

    def check_points(self, plan, turned, rng, change, change_set, total):
        """The turned hall's worths and sets are the hall's own, changed."""
        hall, other = plan.hall(), turned.hall()
        for point in drawn_points(plan, rng):
            there = change(point)
            self.assertEqual(other.worth(there), total(hall.worth(point)))
            for best in (best_up, best_down):
                places, worth = best(hall, point)
                self.assertEqual(best(other, there), (change_set(places), total(worth)))
            for walk in (climb, fall):
                self.assertEqual(walk(other, there), [change_set(places) for places in walk(hall, point)])

    def check_looked(self, plan, turned, rng, change, change_numbers, change_better):
        """What is told of a point goes along, and shows the turned one to be the same."""
        hall, other = plan.hall(), turned.hall()
        for point in drawn_points(plan, rng):
            told, there = looked(hall, point), change(point)
            self.assertIs(type(looked(other, there)), type(told))
            self.assertTrue(looked(other, there).shows(other, there))
            if isinstance(told, Stream):
                self.assertTrue(Stream(change_numbers(told.numbers)).shows(other, there), (plan, turned, point))
            else:
                self.assertTrue(Better(*change_better(told.places, told.up)).shows(other, there), (plan, turned, point))


class MirroredTest(WholeCase):
    def turn(self, point):
        return [-number for number in point]

    def test_ends(self):
        for plan, _ in drawn_halls(range(400), most_places=5, most_parts=12):
            lowest, highest, total = ends_of(plan)
            if total is None:
                self.assertIs(type(least(mirrored(plan).hall())), Nowhere)
            else:
                self.assertEqual(ends_of(mirrored(plan)), (self.turn(highest), self.turn(lowest), total))

    def test_sets(self):
        for plan, rng in drawn_halls(range(200)):
            hall, other = plan.hall(), mirrored(plan).hall()
            for point in drawn_points(plan, rng):
                self.assertEqual(best_down(other, self.turn(point)), best_up(hall, point))
                self.assertEqual(best_up(other, self.turn(point)), best_down(hall, point))
                self.assertEqual(fall(other, self.turn(point)), climb(hall, point))
                self.assertEqual(climb(other, self.turn(point)), fall(hall, point))

    def test_looked(self):
        for plan, rng in drawn_halls(range(200)):
            self.check_looked(plan, mirrored(plan), rng, self.turn, lambda numbers, at=plan: mirrored_numbers(at, numbers),
                              lambda places, up: (places, not up))

    def test_dearer(self):
        for plan, _ in drawn_halls(range(100)):
            told = dearer(plan.hall(), 0, WEIGHTS)
            for weight, lowest in zip(WEIGHTS, told):
                sloped = mirrored(Plan(plan.many, plan.plans + [("slope", 0, weight)], plan.low, plan.high))
                highest = ends_of(sloped)[1]
                self.assertEqual(None if highest is None else self.turn(highest), lowest)


class NamedTest(WholeCase):
    def names(self, plan, rng):
        return rng.sample(range(plan.many), plan.many)

    def test_ends(self):
        for plan, rng in drawn_halls(range(300), most_places=6, most_parts=12):
            names = self.names(plan, rng)
            self.check_ends(plan, named(plan, names), lambda point, at=names: named_point(point, at), lambda total: total)

    def test_points(self):
        for plan, rng in drawn_halls(range(200)):
            names = self.names(plan, rng)
            turned = named(plan, names)
            self.check_points(plan, turned, rng, lambda point, at=names: named_point(point, at),
                              lambda places, at=names: named_set(places, at), lambda worth: worth)
            self.check_looked(plan, turned, rng, lambda point, at=names: named_point(point, at), list,
                              lambda places, up, at=names: (named_set(places, at), up))

    def test_dearer(self):
        for plan, rng in drawn_halls(range(150)):
            names = self.names(plan, rng)
            place = rng.randrange(plan.many)
            told = dearer(plan.hall(), place, WEIGHTS)
            self.assertEqual(dearer(named(plan, names).hall(), names[place], WEIGHTS),
                             [None if point is None else named_point(point, names) for point in told])


class OrderedTest(WholeCase):
    def test_what_is_told(self):
        for plan, rng in drawn_halls(range(250), most_parts=9):
            order = rng.sample(range(len(plan.plans)), len(plan.plans))
            turned = ordered(plan, order)
            self.check_ends(plan, turned, list, lambda total: total)
            self.check_points(plan, turned, rng, list, list, lambda worth: worth)
            self.check_looked(plan, turned, rng, list, lambda numbers, at=order: [numbers[k] for k in at],
                              lambda places, up: (places, up))
            self.assertEqual(dearer(turned.hall(), 0, WEIGHTS), dearer(plan.hall(), 0, WEIGHTS))


class AlongTest(WholeCase):
    def test_what_is_told(self):
        for plan, rng in drawn_halls(range(250)):
            by = rng.choice([-40, -3, -1, 1, 2, 40])
            turned = along(plan, by)
            self.check_ends(plan, turned, lambda point, at=by: along_point(point, at), lambda total: total)
            self.check_points(plan, turned, rng, lambda point, at=by: along_point(point, at), list, lambda worth: worth)
            self.check_looked(plan, turned, rng, lambda point, at=by: along_point(point, at), list,
                              lambda places, up: (places, up))
            told = dearer(plan.hall(), 0, WEIGHTS)
            self.assertEqual(dearer(turned.hall(), 0, WEIGHTS),
                             [None if point is None else along_point(point, by) for point in told])

    def test_charts(self):
        for plan, _ in drawn_halls(range(200), most_high=3):
            try:
                chart = charted(plan.hall())
            except BadHall:
                with self.assertRaises(BadHall):
                    charted(along(plan, 7).hall())
                continue
            other = charted(along(plan, 7).hall())
            for point in plan.points():
                there = along_point(point, -plan.low)
                self.assertEqual(chart.worth(there), other.worth(there))


class OftenTest(WholeCase):
    def test_what_is_told(self):
        for plan, rng in drawn_halls(range(250)):
            many = rng.choice([1, 2, 3, 100])
            turned = often(plan, many)
            self.check_ends(plan, turned, list, lambda total, at=many: at * total)
            self.check_points(plan, turned, rng, list, list, lambda worth, at=many: at * worth)
            self.check_looked(plan, turned, rng, list, lambda numbers, at=many: [at * number for number in numbers],
                              lambda places, up: (places, up))
            times_as_much = [many * weight for weight in (2, -1, 0, 5)]
            self.assertEqual(dearer(turned.hall(), 0, times_as_much), dearer(plan.hall(), 0, [2, -1, 0, 5]))


class NoWeightTest(WholeCase):
    def test_what_is_told(self):
        for plan, rng in drawn_halls(range(250)):
            nothing = [("slope", 0, 0), ("aim", plan.many - 1, 3, 0), ("times", 9, ("square", 0, -4, 0)),
                       ("moved", 5, ("aim", 0, 2, 0))]
            nothing += [("near", 0, plan.many - 1, 3, 0), ("ahead", plan.many - 1, 0, 100)] if plan.many > 1 else []
            turned = Plan(plan.many, nothing + plan.plans, plan.low, plan.high)
            self.check_ends(plan, turned, list, lambda total: total)
            self.check_points(plan, turned, rng, list, list, lambda worth: worth)
            self.check_looked(plan, turned, rng, list, lambda numbers, at=len(nothing): [0] * at + numbers,
                              lambda places, up: (places, up))
            self.check_numbers(plan, turned, rng, len(nothing))
            self.assertEqual(dearer(turned.hall(), 0, WEIGHTS), dearer(plan.hall(), 0, WEIGHTS))

    def check_numbers(self, plan, turned, rng, many):
        """A part of no weight bears 0 alone, so that the others' numbers show the point least without it."""
        for point in drawn_points(plan, rng):
            told = looked(turned.hall(), point)
            if isinstance(told, Stream):
                self.assertEqual(told.numbers[:many], [0] * many)
                self.assertTrue(Stream(told.numbers[many:]).shows(plan.hall(), point))


class BesideTest(WholeCase):
    def drawn(self, seed):
        """A hall, another one, and both beside each other."""
        plan, other = drawn_hall(seed, most_parts=5), drawn_hall(seed + 5000, most_parts=5)
        other = Plan(other.many, other.plans, plan.low, plan.high)
        return plan, other, beside(plan, other)

    def shifted(self, plan, places):
        return [place + plan.many for place in places]

    def test_ends(self):
        for seed in range(300):
            plan, other, both = self.drawn(seed)
            lowest, highest, total = ends_of(plan)
            low, high, more = ends_of(other)
            if total is None or more is None:
                self.assertIs(type(least(both.hall())), Nowhere)
                self.assertEqual(dearer(both.hall(), 0, [1]), [None])
            else:
                self.assertEqual(ends_of(both), (lowest + low, highest + high, total + more))
                told = dearer(plan.hall(), 0, WEIGHTS)
                self.assertEqual(dearer(both.hall(), 0, WEIGHTS), [point + low for point in told])

    def test_points(self):
        for seed in range(150):
            plan, other, both = self.drawn(seed)
            rng = random.Random(seed)
            for here, there in zip(drawn_points(plan, rng, 2), drawn_points(other, rng, 2)):
                self.check_sets(plan, other, both, here, there)
                self.check_told(plan, other, both, here, there)

    def check_sets(self, plan, other, both, here, there):
        hall = both.hall()
        for best in (best_up, best_down):
            places, worth = best(plan.hall(), here)
            more, there_worth = best(other.hall(), there)
            self.assertEqual(best(hall, here + there), (places + self.shifted(plan, more), worth + there_worth))
        for walk in (climb, fall):
            steps, more = walk(plan.hall(), here), walk(other.hall(), there)
            length = max(len(steps), len(more))
            steps, more = steps + [[]] * (length - len(steps)), more + [[]] * (length - len(more))
            joined = [places + self.shifted(plan, after) for places, after in zip(steps, more)]
            self.assertEqual(walk(hall, here + there), joined)

    def check_told(self, plan, other, both, here, there):
        hall = both.hall()
        told, more = looked(plan.hall(), here), looked(other.hall(), there)
        if isinstance(told, Stream) and isinstance(more, Stream):
            self.assertTrue(Stream(told.numbers + more.numbers).shows(hall, here + there))
            joined = looked(hall, here + there).numbers
            at = len(plan.plans)
            self.assertTrue(Stream(joined[:at]).shows(plan.hall(), here))
            self.assertTrue(Stream(joined[at:]).shows(other.hall(), there))
            return
        self.assertIs(type(looked(hall, here + there)), Better)
        if isinstance(told, Better):
            self.assertTrue(Better(told.places, told.up).shows(hall, here + there))
        else:
            self.assertTrue(Better(self.shifted(plan, more.places), more.up).shows(hall, here + there))


class NeverBothTest(WholeCase):
    """Of a hall, and of a point, one of two things is told: nothing shows the other one."""

    def test_streams_and_sets(self):
        for plan, rng in drawn_halls(range(150)):
            hall = plan.hall()
            points = drawn_points(plan, rng)
            told = [looked(hall, point) for point in points]
            for point, own in zip(points, told):
                kinds = {type(answer) for answer in told if answer.shows(hall, point)}
                self.assertEqual(kinds, {type(own)})

    def test_ends_of_a_hall_are_shown_least(self):
        for plan, _ in drawn_halls(range(300), most_places=6, most_parts=15):
            hall = plan.hall()
            told = least(hall)
            if isinstance(told, Least):
                for end in (told.lowest, told.highest):
                    self.assertIs(type(looked(hall, end)), Stream)


class AgainTest(WholeCase):
    """What is told is the same when it is asked again, behind any change of what was told."""

    def told_of(self, hall, point):
        """All that is told of the hall and the point, as values, with the lists themselves."""
        ends, seen = least(hall), looked(hall, point)
        lists = [best_up(hall, point)[0], best_down(hall, point)[0], climb(hall, point), fall(hall, point),
                 dearer(hall, 0, [1, 1, -3]), hall.parts(), ends.lowest, ends.highest,
                 seen.numbers if isinstance(seen, Stream) else seen.places]
        texts = [repr(part) for part in lists] + [written(hall), str(hall.worth(point)), str(ends.total)]
        return lists, texts

    def test_asked_again(self):
        for plan, rng in drawn_halls(range(150)):
            hall = plan.hall()
            for point in drawn_points(plan, rng, 2):
                before = list(point)
                lists, texts = self.told_of(hall, point)
                for told in lists:
                    for inner in told:
                        if isinstance(inner, list):
                            inner.append(99)
                            inner.reverse()
                    told.append(77)
                    told.reverse()
                self.assertEqual(self.told_of(hall, list(before))[1], texts)
                self.assertEqual(point, before)

    def test_a_hall_read_again(self):
        for plan, rng in drawn_halls(range(150)):
            hall = read(text_of(plan))
            self.assertEqual(ends_of(plan), self.ends(hall))
            self.assertEqual(dearer(hall, 0, WEIGHTS), dearer(plan.hall(), 0, WEIGHTS))
            for point in drawn_points(plan, rng):
                self.assertEqual(climb(hall, point), climb(plan.hall(), point))
                self.assertTrue(looked(plan.hall(), point).shows(hall, point))

    def ends(self, hall):
        told = least(hall)
        return (None, None, None) if isinstance(told, Nowhere) else (told.lowest, told.highest, told.total)

    def test_two_halls_of_the_same_parts(self):
        for plan, rng in drawn_halls(range(100), most_places=2):
            parts = plan.hall().parts()
            halls = [type(plan.hall())(plan.many, parts, plan.low, plan.high) for _ in range(2)]
            parts.clear()
            dearer(halls[0], 0, [1000])
            self.assertEqual(self.ends(halls[0]), self.ends(halls[1]))
            for point in drawn_points(plan, rng):
                self.assertTrue(looked(halls[0], point).shows(halls[1], point))


if __name__ == "__main__":
    unittest.main()
