"""Ten sorts of part, each with what DOC.md says of it, reckoned apart from the program."""

from evenbend.pairs import Ahead, Gaps, Near
from evenbend.parts import Aim, Row, Slope, Square, Wall
from evenbend.wraps import Moved, Times


class Sample:
    """A maker of a part, and the places, the worths and the limits that the part must have."""

    def __init__(self, sort, make, stands, worth, limits):
        self.sort = sort
        self.make = make
        self.stands = stands
        self.worth = worth
        self.limits = limits


def distance(reads, aim):
    return reads - aim if reads > aim else aim - reads


def out_of_table(table):
    return lambda reads: table.get(reads)


SAMPLES = [
    Sample("slope", lambda: Slope(3, -7), [3], lambda reads: -7 * reads, (None, None)),
    Sample("aim", lambda: Aim(0, 5, 2), [0], lambda reads: 2 * distance(reads, 5), (None, None)),
    Sample("square", lambda: Square(7, -4, 3), [7], lambda reads: 3 * (reads + 4) ** 2, (None, None)),
    Sample("row", lambda: Row(2, -3, [9, 4, 1, 1, 3, 8]), [2],
           out_of_table({-3: 9, -2: 4, -1: 1, 0: 1, 1: 3, 2: 8}), (-3, 2)),
    Sample("wall", lambda: Wall(1, -2, 6), [1], lambda reads: 0 if reads in range(-2, 7) else None, (-2, 6)),
    Sample("near", lambda: Near(4, 1, -6, 11), [4, 1], lambda reads: 11 * distance(reads, -6), (None, None)),
    Sample("gaps", lambda: Gaps(0, 7, 4, [-5, -9, -13, 0]), [0, 7],
           out_of_table({4: -5, 5: -9, 6: -13, 7: 0}), (4, 7)),
    Sample("ahead", lambda: Ahead(6, 2, 3), [6, 2], lambda reads: None if reads > 3 else 0, (None, 3)),
    Sample("times", lambda: Times(Aim(5, -1), 4), [5], lambda reads: 4 * distance(reads, -1), (None, None)),
    Sample("moved", lambda: Moved(Row(6, 0, [3, 0, 2]), -9), [6],
           out_of_table({-9: 3, -8: 0, -7: 2}), (-9, -7)),
]

VERY_GREAT = [10 ** 9, 10 ** 40, 10 ** 40 + 1, 2 ** 20000]


def told_numbers(limits):
    """Ordinary numbers, those at the edges of what is barred, and very great ones either way."""
    numbers = list(range(-30, 31))
    for limit in limits:
        if limit is not None:
            numbers += [limit - 1, limit, limit + 1]
    return numbers + VERY_GREAT + [-number for number in VERY_GREAT]


def wrapped(part, wraps):
    """The part in wraps, the innermost first, each a pair like ("times", 3) or ("moved", -2)."""
    for kind, number in wraps:
        part = Times(part, number) if kind == "times" else Moved(part, number)
    return part


def times_of(wraps):
    product = 1
    for kind, number in wraps:
        product *= number if kind == "times" else 1
    return product


def moved_of(wraps):
    return sum(number for kind, number in wraps if kind == "moved")
