"""Charts: a worth for each of a few points, which must bend evenly."""

from evenbend.answers import Least
from evenbend.checks import is_number, is_number_from
from evenbend.errors import BadChart, BadHall, BadPoint, Crooked
from evenbend.halls import Hall

MOST_SIZES = 3
GREATEST_SIZE = 4
WORTH = 10 ** 30


def points_below(sizes):
    """Tell all points from 0 to below the sizes, in their order."""
    points = [[]]
    for size in sizes:
        points = [point + [number] for point in points for number in range(size)]
    return points


def check_sizes(sizes):
    """Refuse what is no list of sizes."""
    if not isinstance(sizes, list):
        raise BadChart("sizes: no list")
    if not 1 <= len(sizes) <= MOST_SIZES:
        raise BadChart(f"sizes: not 1 to {MOST_SIZES} of them")
    for size in sizes:
        if not is_number_from(size, 1, GREATEST_SIZE):
            raise BadChart(f"size: no number from 1 to {GREATEST_SIZE}")


def check_worths(worths, many):
    """Refuse what is no list of so many worths."""
    if not isinstance(worths, list):
        raise BadChart("worths: no list")
    if len(worths) != many:
        raise BadChart(f"worths: not {many} of them")
    for worth in worths:
        if not is_number_from(worth, -WORTH, WORTH):
            raise BadChart("worth: no number, or too great a one")


def halves(one, other):
    """Tell the two halves of two points: their sum halved at each place and rounded up, and down."""
    sums = [here + there for here, there in zip(one, other)]
    return tuple([(total + 1) // 2 for total in sums]), tuple([total // 2 for total in sums])


def check_bends(table):
    """Refuse worths by points that don't bend evenly."""
    points = list(table)
    for at, one in enumerate(points):
        for other in points[at + 1:]:
            up, down = halves(one, other)
            if table[up] + table[down] > table[one] + table[other]:
                raise Crooked(one, other)


class Chart:
    """Worths for all points from 0 to below the sizes."""

    def __init__(self, sizes, worths):
        check_sizes(sizes)
        points = points_below(sizes)
        check_worths(worths, len(points))
        self.table = {tuple(point): worth for point, worth in zip(points, worths)}
        check_bends(self.table)

    def worth(self, point):
        """Tell the point's worth."""
        if not isinstance(point, list) or not all(is_number(number) for number in point):
            raise BadPoint("no point")
        worth = self.table.get(tuple(point))
        if worth is None:
            raise BadPoint("no point of the chart")
        return worth

    def least(self):
        """Tell the lowest and the highest least point, and their worth."""
        total = min(self.table.values())
        points = [point for point, worth in self.table.items() if worth == total]
        # Worths bend evenly, so the least points are met and joined by least points.
        lowest = [min(numbers) for numbers in zip(*points)]
        highest = [max(numbers) for numbers in zip(*points)]
        return Least(lowest, highest, total)


def charted(hall):
    """Tell the chart of the hall's points, each number less the low."""
    if not isinstance(hall, Hall):
        raise BadHall("no hall")
    size = hall.high - hall.low + 1
    if hall.many > MOST_SIZES or size > GREATEST_SIZE:
        raise BadHall("the hall is too great for a chart")
    sizes = [size] * hall.many
    worths = [hall.worth([number + hall.low for number in point]) for point in points_below(sizes)]
    if None in worths:
        raise BadHall("a point of the hall is barred")
    return Chart(sizes, worths)
