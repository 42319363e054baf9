"""Plans of halls turned into others: mirrored, with places named anew, moved along, many times, beside another one."""

from tests.drawn import PAIRS, Plan

WRAPS = ("times", "moved")


def sort_of(part):
    """The sort of what is wrapped."""
    return sort_of(part[2]) if part[0] in WRAPS else part[0]


def mirrored_part(part):
    """The part, with all numbers the other way round 0."""
    if sort_of(part) in PAIRS:
        # What it reads stays if the one and the other change places.
        return with_places(part, lambda places: places[::-1])
    match part:
        case ("times", many, inner):
            return "times", many, mirrored_part(inner)
        case ("moved", by, inner):
            return "moved", -by, mirrored_part(inner)
        case ("slope", place, weight):
            return "slope", place, -weight
        case ("aim" | "square" as sort, place, aim, weight):
            return sort, place, -aim, weight
        case ("row", place, first, worths):
            return "row", place, -(first + len(worths) - 1), worths[::-1]
        case ("wall", place, low, high):
            return "wall", place, -high, -low
    raise AssertionError(part)


def mirrored_numbers(plan, numbers):
    """A stream's numbers, for the mirrored hall."""
    return [number if sort_of(part) in PAIRS else -number for part, number in zip(plan.plans, numbers)]


def with_places(part, change):
    """The part at other places."""
    if part[0] in WRAPS:
        return part[0], part[1], with_places(part[2], change)
    if part[0] in PAIRS:
        return part[0], *change(part[1:3]), *part[3:]
    return part[0], *change(part[1:2]), *part[2:]


def mirrored(plan):
    return Plan(plan.many, [mirrored_part(part) for part in plan.plans], -plan.high, -plan.low)


def named(plan, names):
    """The hall in which each place is called by its name in the list."""
    plans = [with_places(part, lambda places: [names[place] for place in places]) for part in plan.plans]
    return Plan(plan.many, plans, plan.low, plan.high)


def named_point(point, names):
    told = [0] * len(point)
    for number, name in zip(point, names):
        told[name] = number
    return told


def named_set(places, names):
    return sorted(names[place] for place in places)


def ordered(plan, order):
    """The hall with its parts in another order."""
    return Plan(plan.many, [plan.plans[at] for at in order], plan.low, plan.high)


def along(plan, by):
    """The hall with all its points moved by a number: what is read at two places stays."""
    plans = [part if sort_of(part) in PAIRS else ("moved", by, part) for part in plan.plans]
    return Plan(plan.many, plans, plan.low + by, plan.high + by)


def along_point(point, by):
    return [number + by for number in point]


def often(plan, many):
    return Plan(plan.many, [("times", many, part) for part in plan.plans], plan.low, plan.high)


def beside(plan, other):
    """The two halls as one, with the low and the high of the first."""
    plans = [with_places(part, lambda places: [place + plan.many for place in places]) for part in other.plans]
    return Plan(plan.many + other.many, plan.plans + plans, plan.low, plan.high)


def text_of(plan):
    """The hall as a text, by the words of the document."""
    return "\n".join([f"places {plan.many} from {plan.low} to {plan.high}"] + [row_of(part) for part in plan.plans])


def row_of(part):
    match part:
        case ("times" | "moved" as wrap, number, inner):
            return f"{wrap} {number} {row_of(inner)}"
        case ("row" | "gaps", *numbers, worths):
            return " ".join(map(str, [part[0], *numbers, *worths]))
    return " ".join(map(str, part))
