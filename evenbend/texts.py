"""Texts: halls written in rows, and read again."""

from evenbend.errors import BadHall, BadPart, BadText, NotEven
from evenbend.halls import Hall
from evenbend.pairs import Ahead, Gaps, Near
from evenbend.parts import Aim, Row, Slope, Square, Wall
from evenbend.wraps import Moved, Times

WRAPS = ("times", "moved")
# No number of a hall or a part has more.
MOST_FIGURES = 7


def words_of(part):
    """Tell the words of a part that isn't wrapped: its sort, then its numbers."""
    # Each Near is an Aim, too, and Gaps are a Row, so these are asked for first.
    if isinstance(part, Near):
        return ["near", part.place, part.other, part.aim, part.weight]
    if isinstance(part, Gaps):
        return ["gaps", part.place, part.other, part.first, *part.worths]
    if isinstance(part, Slope):
        return ["slope", part.place, part.weight]
    if isinstance(part, Aim):
        return ["aim", part.place, part.aim, part.weight]
    if isinstance(part, Square):
        return ["square", part.place, part.aim, part.weight]
    if isinstance(part, Row):
        return ["row", part.place, part.first, *part.worths]
    if isinstance(part, Wall):
        return ["wall", part.place, part.low, part.high]
    return ["ahead", part.one, part.other, part.gap]


def written_part(part):
    """Tell the row of a part."""
    if isinstance(part, Times):
        return f"times {part.many} {written_part(part.part)}"
    if isinstance(part, Moved):
        return f"moved {part.by} {written_part(part.part)}"
    return " ".join([str(word) for word in words_of(part)])


def written(hall):
    """Tell the hall as a text."""
    rows = [f"places {hall.many} from {hall.low} to {hall.high}"]
    for part in hall.parts():
        rows.append(written_part(part))
    return "\n".join(rows)


def number_of(word):
    """Tell the number that is written so, or None, which each hall and part refuses."""
    figures = word[1:] if word.startswith("-") else word
    # Asked first, since int takes much else, and is slow, or refuses, where there are very many figures.
    if len(figures) > MOST_FIGURES or not figures.isascii() or not figures.isdigit():
        return None
    number = int(word)
    # So `-0` and needless noughts are left out.
    return number if str(number) == word else None


def plain_part(sort, numbers):
    """Tell the part of the sort that has the numbers; refuse what is none."""
    words = [sort, *numbers]
    match words:
        case ["slope", place, weight]:
            return Slope(place, weight)
        case ["aim", place, aim, weight]:
            return Aim(place, aim, weight)
        case ["square", place, aim, weight]:
            return Square(place, aim, weight)
        case ["row", place, first, *worths]:
            return Row(place, first, worths)
        case ["wall", place, low, high]:
            return Wall(place, low, high)
        case ["near", one, other, aim, weight]:
            return Near(one, other, aim, weight)
        case ["gaps", one, other, first, *worths]:
            return Gaps(one, other, first, worths)
        case ["ahead", one, other, gap]:
            return Ahead(one, other, gap)
    raise BadPart("no sort of part, or too few numbers, or too many")


def wrapped(sort, number, part):
    """Tell the part in one wrap more."""
    if sort == "times":
        return Times(part, number)
    return Moved(part, number)


def part_of(row):
    """Tell the part that is written so; refuse what is none."""
    words = row.split(" ")
    at = 0
    while at + 2 < len(words) and words[at] in WRAPS:
        at += 2
    part = plain_part(words[at], [number_of(word) for word in words[at + 1:]])
    # The wrap that is told last is the innermost.
    while at > 0:
        at -= 2
        part = wrapped(words[at], number_of(words[at + 1]), part)
    return part


def bare_hall(row):
    """Tell the hall without parts that is written so; refuse what is none."""
    words = row.split(" ")
    match words:
        case ["places", many, "from", low, "to", high]:
            return Hall(number_of(many), [], number_of(low), number_of(high))
    raise BadHall("no first row of a hall")


def longer_hall(hall, part):
    """Tell a hall with one part more; refuse a part that doesn't stand in it, or is one too many."""
    return Hall(hall.many, hall.parts() + [part], hall.low, hall.high)


def read(text):
    """Tell the hall that is written so."""
    if not isinstance(text, str):
        raise BadText(0)
    rows = text.split("\n")
    try:
        hall = bare_hall(rows[0])
    except BadHall:
        raise BadText(0) from None
    for at, row in enumerate(rows[1:], start=1):
        try:
            hall = longer_hall(hall, part_of(row))
        except (BadPart, NotEven, BadHall):
            raise BadText(at) from None
    return hall
