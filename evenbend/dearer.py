"""Dearer places: the lowest least points of a hall with one slope more."""

from evenbend.checks import is_number_from
from evenbend.demands import highest_free, lowest_free
from evenbend.errors import BadNumber
from evenbend.halls import Hall
from evenbend.parts import WEIGHT, Slope
from evenbend.sets import UP, walk


class Sloped:
    """A hall with one slope more, which may be its twenty-fifth part."""

    def __init__(self, hall, place, weight):
        self.many = hall.many
        self.low = hall.low
        self.high = hall.high
        self.kept = hall.parts() + [Slope(place, weight)]

    def parts(self):
        """Tell a new list of its parts, the slope last."""
        return list(self.kept)


def check_place_of(hall, place):
    """Refuse what is no place of a hall."""
    if not isinstance(hall, Hall):
        raise BadNumber("no hall whose place it is")
    if not is_number_from(place, 0, hall.many - 1):
        raise BadNumber("no place of the hall")


def check_weights(weights):
    """Refuse what is no list of weights."""
    if not isinstance(weights, list):
        raise BadNumber("weights: no list")
    for weight in weights:
        if not is_number_from(weight, -WEIGHT, WEIGHT):
            raise BadNumber(f"weight: no number from {-WEIGHT} to {WEIGHT}")


def lowest_by_weight(hall, place, weights):
    """Tell the lowest least point for each of the weights, of a hall that has one."""
    point = lowest_free(hall)
    told = {}
    # The less the weight, the higher the lowest least point: so each climb goes on where the one before ended.
    for weight in sorted(weights, reverse=True):
        if weight not in told:
            _, point = walk(Sloped(hall, place, weight), point, UP)
            told[weight] = point
    return told


def dearer(hall, place, weights):
    """Tell for each weight the lowest least point with a slope of it at the place, or None if all are barred."""
    check_place_of(hall, place)
    check_weights(weights)
    top, _ = highest_free(hall)
    if top is None:
        return [None] * len(weights)
    told = lowest_by_weight(hall, place, weights)
    return [list(told[weight]) for weight in weights]
