"""Points: what is one, what a part reads of it and bears there, and its neighbours."""

from evenbend.checks import is_number_from

FARTHEST = 1000


def is_point(point, many):
    """Tell whether the value is a point of so many places."""
    if not isinstance(point, list) or len(point) != many:
        return False
    return all(is_number_from(number, -FARTHEST, FARTHEST) for number in point)


def reading(part, point):
    """Tell the number that the part reads of the point."""
    places = part.stands()
    if len(places) == 1:
        return point[places[0]]
    return point[places[0]] - point[places[1]]


def borne(part, reads):
    """Tell the least and the greatest number that, times how much more or less is read, is never more than is gained.

    Each is None where there is no such bound, since the part bars what is more, or less.
    """
    worth = part.worth_of(reads)
    more = part.worth_of(reads + 1)
    less = part.worth_of(reads - 1)
    # Each part bends evenly: what holds one step away holds farther away, too.
    least = None if less is None else worth - less
    greatest = None if more is None else more - worth
    return least, greatest


def stepped(point, places, step):
    """Tell a new point: the point with the step added at the places."""
    numbers = list(point)
    for place in places:
        numbers[place] += step
    return numbers


def is_set(places, many):
    """Tell whether the places are a set of a hall of so many: they rise, and it has them."""
    before = -1
    for place in places:
        if not before < place < many:
            return False
        before = place
    return True
