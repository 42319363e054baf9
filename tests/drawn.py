"""Drawn halls as plans: tuples from which parts are made, and by which worths are reckoned apart from the program."""

import itertools
import random

from evenbend.halls import Hall
from evenbend.pairs import Ahead, Gaps, Near
from evenbend.parts import Aim, Row, Slope, Square, Wall
from evenbend.wraps import Moved, Times

MAKERS = {"slope": Slope, "aim": Aim, "square": Square, "wall": Wall, "near": Near, "ahead": Ahead}
PAIRS = ("near", "gaps", "ahead")


def part_of(plan):
    """The part of a plan like ("aim", 1, 5, 2), ("moved", -3, plan) or ("times", 4, plan)."""
    sort = plan[0]
    if sort == "times":
        return Times(part_of(plan[2]), plan[1])
    if sort == "moved":
        return Moved(part_of(plan[2]), plan[1])
    if sort == "row":
        return Row(plan[1], plan[2], list(plan[3]))
    if sort == "gaps":
        return Gaps(plan[1], plan[2], plan[3], list(plan[4]))
    return MAKERS[sort](*plan[1:])


def places_of(plan):
    """The place, or the one and the other."""
    if plan[0] in ("times", "moved"):
        return places_of(plan[2])
    return list(plan[1:3]) if plan[0] in PAIRS else [plan[1]]


def read_of(plan, point):
    places = places_of(plan)
    return point[places[0]] if len(places) == 1 else point[places[0]] - point[places[1]]


def in_list(worths, at):
    return worths[at] if at in range(len(worths)) else None


def worth_of(plan, reads):
    """The worth of the part for what it reads, by the words of the document; None where it bars."""
    match plan:
        case ("times", many, inner):
            worth = worth_of(inner, reads)
            return None if worth is None else many * worth
        case ("moved", by, inner):
            return worth_of(inner, reads - by)
        case ("slope", _, weight):
            return weight * reads
        case ("aim", _, aim, weight) | ("near", _, _, aim, weight):
            return weight * max(reads - aim, aim - reads)
        case ("square", _, aim, weight):
            return weight * (reads - aim) ** 2
        case ("row", _, first, worths) | ("gaps", _, _, first, worths):
            return in_list(worths, reads - first)
        case ("wall", _, low, high):
            return 0 if low <= reads <= high else None
        case ("ahead", _, _, gap):
            return None if reads > gap else 0
    raise AssertionError(plan)


def limits_of(plan):
    """The least and the greatest that the part lets be read, by the words of the document."""
    match plan:
        case ("times", _, inner):
            return limits_of(inner)
        case ("moved", by, inner):
            return tuple(None if limit is None else limit + by for limit in limits_of(inner))
        case ("row", _, first, worths) | ("gaps", _, _, first, worths):
            return first, first + len(worths) - 1
        case ("wall", _, low, high):
            return low, high
        case ("ahead", _, _, gap):
            return None, gap
    return None, None


class Plan:
    """A hall as a plan of its own."""

    def __init__(self, many, plans, low=0, high=20):
        self.many = many
        self.plans = plans
        self.low = low
        self.high = high

    def __repr__(self):
        return f"Plan({self.many}, {self.plans}, {self.low}, {self.high})"

    def hall(self):
        return Hall(self.many, [part_of(plan) for plan in self.plans], self.low, self.high)

    def worth(self, point):
        if any(number < self.low or number > self.high for number in point):
            return None
        worths = [worth_of(plan, read_of(plan, point)) for plan in self.plans]
        return None if None in worths else sum(worths)

    def points(self):
        """All points from the low to the high."""
        return [list(point) for point in itertools.product(range(self.low, self.high + 1), repeat=self.many)]

    def worths(self):
        """The worth of each point that isn't barred, by the point as a tuple."""
        told = {}
        for point in self.points():
            worth = self.worth(point)
            if worth is not None:
                told[tuple(point)] = worth
        return told

    def asks(self, demand):
        """Whether the hall or a part of it asks the demand, by the words of the document."""
        a, b, g = demand
        places = range(self.many)
        if a in places and b == -1 and self.high <= g:
            return True
        if a == -1 and b in places and self.low >= -g:
            return True
        return any(part_asks(plan, a, b, g) for plan in self.plans)


def part_asks(plan, a, b, g):
    least, greatest = limits_of(plan)
    places = places_of(plan)
    one, other = places if len(places) == 2 else (places[0], -1)
    if (a, b) == (one, other):
        return greatest is not None and greatest <= g
    if (b, a) == (one, other):
        return least is not None and least >= -g
    return False


def is_shown_ring(plan, demands):
    """Whether the demands are a ring that shows that all points are barred, by the words of the document."""
    if len(demands) == 0:
        return False
    after = demands[1:] + demands[:1]
    joined = all(demand[1] == then[0] for demand, then in zip(demands, after))
    asked = all(plan.asks(demand) for demand in demands)
    return joined and asked and sum(g for _, _, g in demands) < 0


def lowest_of(points):
    """The lowest number at each place."""
    return [min(numbers) for numbers in zip(*points)]


def highest_of(points):
    return [max(numbers) for numbers in zip(*points)]


def even_worths(rng, longest, steepest=6):
    """Worths that bend evenly."""
    steps = sorted(rng.randint(-steepest, steepest) for _ in range(rng.randint(0, longest - 1)))
    return tuple(itertools.accumulate(steps, initial=rng.randint(-9, 9)))


def drawn_single(rng, place, low, high):
    sort = rng.choice(["slope", "slope", "aim", "aim", "square", "row", "wall"])
    near = rng.randint(low - 2, high + 2)
    if sort == "slope":
        return sort, place, rng.randint(-6, 6)
    if sort in ("aim", "square"):
        return sort, place, near, rng.randint(0, 4)
    if sort == "row":
        return sort, place, low - rng.randint(0, 2), even_worths(rng, high - low + 5)
    return sort, place, min(near, high), max(near, high) + rng.randint(-1, 2) + 1


def drawn_pair(rng, one, other, low, high):
    sort = rng.choice(["near", "near", "gaps", "ahead"])
    far = high - low
    if sort == "near":
        return sort, one, other, rng.randint(-far, far), rng.randint(0, 5)
    if sort == "gaps":
        return sort, one, other, rng.randint(-far - 1, 1), even_worths(rng, 2 * far + 2)
    return sort, one, other, rng.randint(-far // 2, far)


def drawn_wrapped(rng, plan):
    """The plan, wrapped or not."""
    for _ in range(rng.choice([0, 0, 0, 1, 2])):
        plan = ("times", rng.randint(1, 3), plan) if rng.random() < 0.5 else ("moved", rng.randint(-2, 2), plan)
    return plan


def drawn_hall(seed, most_places=3, most_high=4, most_parts=6):
    """A small drawn hall; the same for the same seed."""
    rng = random.Random(seed)
    many = rng.randint(1, most_places)
    low = rng.randint(-3, 3)
    high = low + rng.randint(0, most_high)
    plans = []
    for _ in range(rng.randint(0, most_parts)):
        if many > 1 and rng.random() < 0.6:
            one, other = rng.sample(range(many), 2)
            plan = drawn_pair(rng, one, other, low, high)
        else:
            plan = drawn_single(rng, rng.randrange(many), low, high)
        plans.append(drawn_wrapped(rng, plan))
    return Plan(many, plans, low, high)
