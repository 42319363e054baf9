"""Demands (a, b, g): a's number is no more than b's and g together; rings of them; what meets them all."""

GROUND = -1


def demands_within(one, other, limits):
    """Tell the tightest demands that the one's number less the other's lies within the limits."""
    least, greatest = limits
    tightest = []
    if greatest is not None:
        tightest.append((one, other, greatest))
    if least is not None:
        tightest.append((other, one, -least))
    return tightest


def hall_demands(hall):
    """Tell the tightest demands that the hall and its parts ask."""
    tightest = []
    for place in range(hall.many):
        tightest.extend(demands_within(place, GROUND, (hall.low, hall.high)))
    for part in hall.parts():
        places = part.stands()
        other = places[1] if len(places) == 2 else GROUND
        tightest.extend(demands_within(places[0], other, part.limits()))
    return tightest


def is_ring(demands):
    """Tell whether each one's b is the next one's a, and the last one's b the first one's a."""
    if not demands:
        return False
    before = demands[-1]
    for demand in demands:
        if before[1] != demand[0]:
            return False
        before = demand
    return True


def all_asked(demands, tightest):
    """Tell whether each demand is one of the tightest, or a looser one than such."""
    asked = {}
    for one, other, gap in tightest:
        asked[(one, other)] = min(gap, asked.get((one, other), gap))
    for one, other, gap in demands:
        if (one, other) not in asked or asked[(one, other)] > gap:
            return False
    return True


def tighten(demands, numbers, causes):
    """Lower each number above its demand, once round; tell the last one lowered, or None."""
    lowered = None
    for demand in demands:
        one, other, gap = demand
        if numbers[one] > numbers[other] + gap:
            numbers[one] = numbers[other] + gap
            causes[one] = demand
            lowered = one
    return lowered


def ring_behind(causes, place):
    """Tell the ring of demands that the causes of the place lead back to."""
    # The causes may lead some way to the ring, but then go round in it.
    for _ in causes:
        place = causes[place][1]
    ring = [causes[place]]
    while ring[-1][1] != place:
        ring.append(causes[ring[-1][1]])
    return ring


def settled(demands, many, start):
    """Tell the highest numbers, none above the start, that meet the demands, and [], or None and a ring."""
    # The ground's number stands last, so that GROUND is its index.
    numbers = [start] * many + [0]
    causes = [None] * (many + 1)
    lowered = None
    for _ in range(many + 1):
        lowered = tighten(demands, numbers, causes)
    # Without a ring nothing is lowered by more demands in a row than there are places.
    if lowered is None:
        return numbers[:many], []
    return None, ring_behind(causes, lowered)


def highest_free(hall):
    """Tell the highest point that isn't barred, and [], or None and a ring of demands."""
    return settled(hall_demands(hall), hall.many, hall.high)


def lowest_free(hall):
    """Tell the lowest point that isn't barred, of a hall that has one."""
    # Seen from below, each number the other way round 0, the lowest is the highest.
    turned = [(other, one, gap) for one, other, gap in hall_demands(hall)]
    numbers, _ = settled(turned, hall.many, -hall.low)
    return [-number for number in numbers]
