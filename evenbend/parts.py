"""Parts: what gives worths to, or bars, the number that it reads at one place."""

from evenbend.checks import is_number_from
from evenbend.errors import BadPart, NotEven

LAST_PLACE = 7
WEIGHT = 1000
REACH = 100
LONGEST = 40
WORTH = 1000000


def check_number(value, low, high, name):
    """Refuse what is no number from the low to the high."""
    if not is_number_from(value, low, high):
        # The value isn't shown: Python refuses to write out very great numbers.
        raise BadPart(f"{name}: no number from {low} to {high}")


def check_place(place):
    """Refuse what is no place."""
    check_number(place, 0, LAST_PLACE, "place")


def check_reach(value, name):
    """Refuse what is no number that an aim, a first, a low, a high or a gap may be."""
    check_number(value, -REACH, REACH, name)


def check_aim(place, aim, weight):
    """Refuse what no aim or square may have."""
    check_place(place)
    check_reach(aim, "aim")
    check_number(weight, 0, WEIGHT, "weight")


def check_worths(worths):
    """Refuse what is no list of worths."""
    if not isinstance(worths, list):
        raise BadPart("worths: no list")
    if not 1 <= len(worths) <= LONGEST:
        raise BadPart(f"worths: not 1 to {LONGEST} of them")
    for worth in worths:
        check_number(worth, -WORTH, WORTH, "worth")


def check_bends(worths):
    """Refuse worths that don't bend evenly."""
    for at in range(1, len(worths) - 1):
        if 2 * worths[at] > worths[at - 1] + worths[at + 1]:
            raise NotEven(at)


class Part:
    """The base of all parts; only those under it are made."""

    def __init__(self):
        raise BadPart("a part is made by one of the classes under Part")

    def stands(self):
        """Tell a new list of its place, or of the one and the other."""
        raise NotImplementedError("stands")

    def worth_of(self, reads):
        """Tell its worth for the number that it reads, or None where it bars."""
        raise NotImplementedError("worth_of")

    def limits(self):
        """Tell the least and the greatest that it lets be read, None for none."""
        raise NotImplementedError("limits")


class Slope(Part):
    """The weight times what it reads."""

    def __init__(self, place, weight):
        check_place(place)
        check_number(weight, -WEIGHT, WEIGHT, "weight")
        self.place = place
        self.weight = weight

    def stands(self):
        return [self.place]

    def worth_of(self, reads):
        return self.weight * reads

    def limits(self):
        return None, None


class Aim(Part):
    """The weight times how far what it reads is from the aim."""

    def __init__(self, place, aim, weight=1):
        check_aim(place, aim, weight)
        self.place = place
        self.aim = aim
        self.weight = weight

    def stands(self):
        return [self.place]

    def worth_of(self, reads):
        return self.weight * abs(reads - self.aim)

    def limits(self):
        return None, None


class Square(Part):
    """The weight times how far what it reads is from the aim, times how far again."""

    def __init__(self, place, aim, weight=1):
        check_aim(place, aim, weight)
        self.place = place
        self.aim = aim
        self.weight = weight

    def stands(self):
        return [self.place]

    def worth_of(self, reads):
        far = reads - self.aim
        return self.weight * far * far

    def limits(self):
        return None, None


class Row(Part):
    """Worths for the first, the first and one, and so on; it bars all else."""

    def __init__(self, place, first, worths):
        check_place(place)
        check_reach(first, "first")
        check_worths(worths)
        check_bends(worths)
        self.place = place
        self.first = first
        # A copy: the caller may change the list afterwards.
        self.worths = tuple(worths)

    def stands(self):
        return [self.place]

    def worth_of(self, reads):
        at = reads - self.first
        if 0 <= at < len(self.worths):
            return self.worths[at]
        return None

    def limits(self):
        return self.first, self.first + len(self.worths) - 1


class Wall(Part):
    """0 from the low to the high; it bars all else."""

    def __init__(self, place, low, high):
        check_place(place)
        check_reach(low, "low")
        check_reach(high, "high")
        if low > high:
            raise BadPart("the low is above the high")
        self.place = place
        self.low = low
        self.high = high

    def stands(self):
        return [self.place]

    def worth_of(self, reads):
        if self.low <= reads <= self.high:
            return 0
        return None

    def limits(self):
        return self.low, self.high
