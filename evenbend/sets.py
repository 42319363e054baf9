"""Sets of places: the best ones to raise or to lower, and climbs and falls by them."""

from evenbend.errors import BadPoint
from evenbend.halls import Hall
from evenbend.points import reading, stepped

UP = 1
DOWN = -1


class Moves:
    """What it means for parts and hall that some places of a point move by one, the others staying."""

    def __init__(self, hall, point, way):
        self.many = hall.many
        # What is gained by each place that moves, for each one that stays. Behind the places stands the
        # ground, which always stays: what stands at one place only is moved away from the ground.
        self.gains = [[0] * (hall.many + 1) for place in range(hall.many)]
        # For each place the ones that have to move with it, as bits; none ever moves that needs the ground.
        self.needs = [0] * hall.many
        for place in range(hall.many):
            if not hall.low <= point[place] + way <= hall.high:
                self.needs[place] = 1 << hall.many
        for part in hall.parts():
            self.take_part(part, reading(part, point), way)

    def take_part(self, part, reads, way):
        """Take in a part that reads so much."""
        places = part.stands()
        if len(places) == 1:
            self.take_gain(places[0], self.many, part, reads, way)
        else:
            self.take_gain(places[0], places[1], part, reads, way)
            self.take_gain(places[1], places[0], part, reads, -way)

    def take_gain(self, mover, stayer, part, reads, step):
        """Take in what the part says of the one's moving away from the other."""
        then = part.worth_of(reads + step)
        if then is None:
            self.needs[mover] = self.needs[mover] | 1 << stayer
        else:
            self.gains[mover][stayer] += then - part.worth_of(reads)

    def changes(self):
        """Tell the change of worth for each set of places; a set is a number with a bit for each place."""
        changes = [0]
        for place in range(self.many):
            if_others_stay = sum(self.gains[place])
            # What isn't gained, for each set of the places before, since they move along.
            spared = [0]
            for other in range(place):
                between = self.gains[place][other] + self.gains[other][place]
                spared = spared + [gain + between for gain in spared]
            changes = changes + [change + if_others_stay - gain for change, gain in zip(changes, spared)]
        return changes

    def free_sets(self):
        """Tell the sets, as numbers, whose moving leads to no barred point."""
        needed = [0]
        for place in range(self.many):
            needed = needed + [bits | self.needs[place] for bits in needed]
        return [bits for bits in range(1 << self.many) if needed[bits] | bits == bits]


def best_set(hall, point, way):
    """Tell, of all best sets, the one that lies within all others, and the change of worth by it."""
    moves = Moves(hall, point, way)
    changes = moves.changes()
    free = moves.free_sets()
    change = min([changes[bits] for bits in free])
    # Worths bend evenly, so what all best sets have in common is a best set itself.
    common = (1 << hall.many) - 1
    for bits in free:
        if changes[bits] == change:
            common = common & bits
    return [place for place in range(hall.many) if common >> place & 1], change


def walk(hall, point, way):
    """Tell the told sets, again and again till the told one is empty, and the point that they lead to."""
    told = []
    places, _ = best_set(hall, point, way)
    while places:
        told.append(places)
        point = stepped(point, places, way)
        places, _ = best_set(hall, point, way)
    return told, point


def free_worth(hall, point):
    """Tell the worth of a point; refuse what is no point of a hall, or barred."""
    if not isinstance(hall, Hall):
        raise BadPoint("no hall whose point it is")
    worth = hall.worth(point)
    if worth is None:
        raise BadPoint("the point is barred")
    return worth


def best_up(hall, point):
    """Tell the told set to raise, and the worth then."""
    worth = free_worth(hall, point)
    places, change = best_set(hall, point, UP)
    return places, worth + change


def best_down(hall, point):
    """Tell the told set to lower, and the worth then."""
    worth = free_worth(hall, point)
    places, change = best_set(hall, point, DOWN)
    return places, worth + change


def climb(hall, point):
    """Tell the told sets, raised again and again, till the told one is empty."""
    free_worth(hall, point)
    told, _ = walk(hall, point, UP)
    return told


def fall(hall, point):
    """Tell the told sets, lowered again and again, till the told one is empty."""
    free_worth(hall, point)
    told, _ = walk(hall, point, DOWN)
    return told
