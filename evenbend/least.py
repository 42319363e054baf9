"""The least points of a hall, or a ring of demands that shows that all its points are barred."""

from evenbend.answers import Least, Nowhere
from evenbend.demands import highest_free, lowest_free
from evenbend.sets import DOWN, UP, walk


def least(hall):
    """Tell the lowest and the highest least point as a Least, or a Nowhere."""
    top, ring = highest_free(hall)
    if top is None:
        return Nowhere(ring)
    # No least point is below the lowest free one, so the climb from there comes to the lowest least one.
    _, lowest = walk(hall, lowest_free(hall), UP)
    _, highest = walk(hall, top, DOWN)
    return Least(lowest, highest, hall.worth(lowest))
