"""Wrapped parts: a part many times, and a part moved by a number."""

from evenbend.errors import BadPart
from evenbend.parts import Part, check_number

MOST_WRAPS = 8
MOST_TIMES = 100
FARTHEST = 100


def wraps_around(part):
    """Count the wraps that a part already has."""
    if isinstance(part, Times) or isinstance(part, Moved):
        return part.wraps
    return 0


def check_wrapped(part):
    """Refuse what is no part, or is wrapped as often as may be."""
    if not isinstance(part, Part):
        raise BadPart("what is wrapped is no part")
    if wraps_around(part) >= MOST_WRAPS:
        raise BadPart(f"more than {MOST_WRAPS} wraps")


def moved_limit(limit, by):
    """Tell a limit moved by a number; none stays none."""
    if limit is None:
        return None
    return limit + by


class Times(Part):
    """So many times the worth of the part."""

    def __init__(self, part, many):
        check_wrapped(part)
        check_number(many, 1, MOST_TIMES, "many")
        self.part = part
        self.many = many
        self.wraps = wraps_around(part) + 1

    def stands(self):
        return self.part.stands()

    def worth_of(self, reads):
        worth = self.part.worth_of(reads)
        if worth is None:
            return None
        return self.many * worth

    def limits(self):
        return self.part.limits()


class Moved(Part):
    """The worth that the part has for what is read less the number."""

    def __init__(self, part, by):
        check_wrapped(part)
        check_number(by, -FARTHEST, FARTHEST, "by")
        self.part = part
        self.by = by
        self.wraps = wraps_around(part) + 1

    def stands(self):
        return self.part.stands()

    def worth_of(self, reads):
        return self.part.worth_of(reads - self.by)

    def limits(self):
        least, greatest = self.part.limits()
        return moved_limit(least, self.by), moved_limit(greatest, self.by)
