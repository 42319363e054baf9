"""Answers, each of which can be checked against the hall alone."""

from evenbend.demands import all_asked, hall_demands, is_ring
from evenbend.points import borne, is_point, is_set, reading, stepped


def worth_or_none(hall, point):
    """Tell the point's worth, or None where it is barred, or no point of the hall."""
    if not is_point(point, hall.many):
        return None
    return hall.worth(point)


def bears(part, reads, number):
    """Tell whether the number, times how much more or less is read, is never more than is gained."""
    least, greatest = borne(part, reads)
    if least is not None and number < least:
        return False
    return greatest is None or number <= greatest


def sums_at_places(hall, numbers):
    """Tell for each place the parts' numbers together, those of which it is the other taken away."""
    sums = [0] * hall.many
    for part, number in zip(hall.parts(), numbers):
        places = part.stands()
        sums[places[0]] += number
        if len(places) == 2:
            sums[places[1]] -= number
    return sums


class Answer:
    """The base of all answers."""


class Least(Answer):
    """The lowest and the highest least point, and their worth."""

    def __init__(self, lowest, highest, total):
        self.lowest = list(lowest)
        self.highest = list(highest)
        self.total = total


class Nowhere(Answer):
    """A ring of demands, which shows that all points are barred."""

    def __init__(self, demands):
        self.demands = list(demands)

    def shows(self, hall):
        """Tell whether it is a ring, asked by the hall and its parts, of less than 0 together."""
        if not is_ring(self.demands):
            return False
        if sum([demand[2] for demand in self.demands]) >= 0:
            return False
        return all_asked(self.demands, hall_demands(hall))


class Stream(Answer):
    """A number for each part, which together show a point least."""

    def __init__(self, numbers):
        self.numbers = list(numbers)

    def shows(self, hall, point):
        """Tell whether the numbers show the point least."""
        parts = hall.parts()
        if len(self.numbers) != len(parts) or worth_or_none(hall, point) is None:
            return False
        for part, number in zip(parts, self.numbers):
            if not bears(part, reading(part, point), number):
                return False
        for number, total in zip(point, sums_at_places(hall, self.numbers)):
            if total > 0 and number != hall.low or total < 0 and number != hall.high:
                return False
        return True


class Better(Answer):
    """A set of places whose raising (or lowering) betters a point."""

    def __init__(self, places, up):
        self.places = list(places)
        self.up = up

    def shows(self, hall, point):
        """Tell whether the set, raised or lowered, betters the point."""
        worth = worth_or_none(hall, point)
        if worth is None or not self.places or not is_set(self.places, hall.many):
            return False
        then = worth_or_none(hall, stepped(point, self.places, 1 if self.up else -1))
        return then is not None and then < worth
