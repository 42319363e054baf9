"""Halls: some places, a low and a high for their numbers, and parts."""

from evenbend.checks import is_number_from
from evenbend.errors import BadHall, BadPoint
from evenbend.parts import Part
from evenbend.points import is_point, reading

MOST_PLACES = 8
MOST_PARTS = 24
EDGE = 50


def check_parts(parts, many):
    """Refuse what is no list of parts that stand at so many places."""
    if not isinstance(parts, list):
        raise BadHall("parts: no list")
    if len(parts) > MOST_PARTS:
        raise BadHall(f"more than {MOST_PARTS} parts")
    for part in parts:
        if not isinstance(part, Part):
            raise BadHall("what stands among the parts is none")
        if max(part.stands()) >= many:
            raise BadHall("a part stands at a place that the hall hasn't")


def check_edges(low, high):
    """Refuse what are no low and high."""
    if not is_number_from(low, -EDGE, EDGE) or not is_number_from(high, -EDGE, EDGE):
        raise BadHall(f"low and high: no numbers from {-EDGE} to {EDGE}")
    if low > high:
        raise BadHall("the low is above the high")


class Hall:
    """Places whose points have the worths of all the parts together."""

    def __init__(self, many, parts, low=0, high=20):
        if not is_number_from(many, 1, MOST_PLACES):
            raise BadHall(f"places: no number from 1 to {MOST_PLACES}")
        check_parts(parts, many)
        check_edges(low, high)
        self.many = many
        self.low = low
        self.high = high
        # A copy: the caller may change the list afterwards.
        self.kept = list(parts)

    def worth(self, point):
        """Tell the point's worth, or None if it is barred."""
        if not is_point(point, self.many):
            raise BadPoint("no point of the hall")
        if min(point) < self.low or max(point) > self.high:
            return None
        total = 0
        for part in self.kept:
            worth = part.worth_of(reading(part, point))
            if worth is None:
                return None
            total += worth
        return total

    def parts(self):
        """Tell a new list of its parts, in their order."""
        return list(self.kept)
