"""Parts at two places: they read the one's number less the other's."""

from evenbend.errors import BadPart
from evenbend.parts import Aim, Part, Row, check_place, check_reach


def check_places(one, other):
    """Refuse what are no two unlike places."""
    check_place(one)
    check_place(other)
    if one == other:
        raise BadPart("the one and the other are like places")


class Near(Aim):
    """An aim of what is read at two places."""

    def __init__(self, one, other, aim=0, weight=1):
        check_places(one, other)
        super().__init__(one, aim, weight)
        self.other = other

    def stands(self):
        return [self.place, self.other]

    def worth_of(self, reads):
        return super().worth_of(reads)

    def limits(self):
        return super().limits()


class Gaps(Row):
    """A row of what is read at two places."""

    def __init__(self, one, other, first, worths):
        # First, since Row may raise NotEven, ahead of which each BadPart goes.
        check_places(one, other)
        super().__init__(one, first, worths)
        self.other = other

    def stands(self):
        return [self.place, self.other]

    def worth_of(self, reads):
        return super().worth_of(reads)

    def limits(self):
        return super().limits()


class Ahead(Part):
    """0 where it reads no more than the gap; it bars all else."""

    def __init__(self, one, other, gap):
        check_places(one, other)
        check_reach(gap, "gap")
        self.one = one
        self.other = other
        self.gap = gap

    def stands(self):
        return [self.one, self.other]

    def worth_of(self, reads):
        if reads <= self.gap:
            return 0
        return None

    def limits(self):
        return None, self.gap
