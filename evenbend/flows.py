"""Channels, each with a number within bounds, and how their numbers come to 0 together at each place."""

RISE = 1
SINK = -1


def nearest_to_nought(bottom, top):
    """Tell the number nearest to 0 from the bottom to the top, each None if there is no such bound."""
    number = 0
    if bottom is not None:
        number = max(number, bottom)
    if top is not None:
        number = min(number, top)
    return number


class Channel:
    """What counts at the one place and is taken away at the other: a number from the bottom to the top."""

    def __init__(self, one, other, bottom, top):
        self.one = one
        self.other = other
        self.bottom = bottom
        self.top = top
        self.number = nearest_to_nought(bottom, top)

    def room(self, way):
        """Tell how far the number may go that way, None for as far as one likes."""
        bound = self.top if way == RISE else self.bottom
        if bound is None:
            return None
        return way * (bound - self.number)

    def source(self, way):
        """Tell the place whose sum becomes less if the number goes that way."""
        return self.other if way == RISE else self.one

    def target(self, way):
        """Tell the place whose sum becomes more if the number goes that way."""
        return self.one if way == RISE else self.other


def sums_of(channels, many):
    """Tell for each of so many places what the channels' numbers come to."""
    sums = [0] * many
    for channel in channels:
        sums[channel.one] += channel.number
        sums[channel.other] -= channel.number
    return sums


def steps_from(channels, place):
    """Tell pairs of a channel and a way, all that there is room for, that make the place's sum less."""
    steps = []
    for channel in channels:
        for way in (RISE, SINK):
            if channel.source(way) == place and channel.room(way) != 0:
                steps.append((channel, way))
    return steps


def steps_back(came, place):
    """Tell the steps by which one came to the place."""
    steps = []
    while came[place] is not None:
        channel, way = came[place]
        steps.append((channel, way))
        place = channel.source(way)
    return steps


def shortest_steps(channels, sums):
    """Tell the fewest steps from a place with too much to one with too little."""
    reached = [place for place, total in enumerate(sums) if total > 0]
    came = {start: None for start in reached}
    at = 0
    while sums[reached[at]] >= 0:
        steps = steps_from(channels, reached[at])
        for channel, way in steps:
            place = channel.target(way)
            if place not in came:
                came[place] = (channel, way)
                reached.append(place)
        at += 1
    return steps_back(came, reached[at])


def take_steps(steps, sums):
    """Let the channels' numbers go as far as they all may, and as far as it is of use."""
    # The steps are told from their end.
    first, first_way = steps[-1]
    last, last_way = steps[0]
    amount = min(sums[first.source(first_way)], -sums[last.target(last_way)])
    for channel, way in steps:
        room = channel.room(way)
        if room is not None:
            amount = min(amount, room)
    for channel, way in steps:
        channel.number += way * amount


def settle(channels, many):
    """Change the numbers of channels that may do so till they come to 0 at each of so many places."""
    sums = sums_of(channels, many)
    # The fewest steps are taken each time: so it takes a few hundred times at most, however great the numbers.
    while max(sums) > 0:
        take_steps(shortest_steps(channels, sums), sums)
        sums = sums_of(channels, many)
