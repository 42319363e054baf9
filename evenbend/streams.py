"""What shows a point least, or what betters it."""

from evenbend.answers import Better, Stream
from evenbend.flows import Channel, settle
from evenbend.parts import Wall
from evenbend.points import borne, reading
from evenbend.sets import DOWN, UP, best_set, free_worth


def channel_of(part, point, ground):
    """Tell the channel of the numbers that the part bears at the point."""
    places = part.stands()
    other = places[1] if len(places) == 2 else ground
    bottom, top = borne(part, reading(part, point))
    return Channel(places[0], other, bottom, top)


def stream_numbers(hall, point):
    """Tell for each part a number, which together show the point, a least one, least."""
    parts = hall.parts()
    # What the low and the high allow at a place is just what a wall there would bear.
    walls = [Wall(place, hall.low, hall.high) for place in range(hall.many)]
    # The ground stands behind the places: what isn't taken away at a place is taken away there.
    channels = [channel_of(part, point, hall.many) for part in parts + walls]
    settle(channels, hall.many + 1)
    return [channel.number for channel in channels[:len(parts)]]


def looked(hall, point):
    """Tell a Stream that shows the point least, or a Better."""
    free_worth(hall, point)
    for way in (UP, DOWN):
        places, change = best_set(hall, point, way)
        if change < 0:
            return Better(places, way == UP)
    # Worths bend evenly: what no set betters, raised or lowered, is least.
    return Stream(stream_numbers(hall, point))
