"""Points 1 and 10 of DOC.md, and evenbend/texts.py."""

import inspect
import random
import re
import time
import unittest

from evenbend.errors import BadText
from evenbend.halls import Hall
from evenbend.pairs import Ahead, Gaps, Near
from evenbend.parts import Aim, Row, Slope, Square, Wall
from evenbend.texts import read, written
from evenbend.wraps import Moved, Times
from tests.drawn import Plan, drawn_hall
from tests.test_refusals import NO_LISTS
from tests.turned import text_of

NUMBER = "(0|-?[1-9][0-9]*)"
PLACE, WEIGHT, REACH = (0, 7), (0, 1000), (-100, 100)
WORTH = (-1000000, 1000000)
# The numbers of each sort of part and their bounds, those of the worths apart.
SORTS = {
    "slope": [PLACE, (-1000, 1000)], "aim": [PLACE, REACH, WEIGHT], "square": [PLACE, REACH, WEIGHT],
    "row": [PLACE, REACH], "wall": [PLACE, REACH, REACH], "near": [PLACE, PLACE, REACH, WEIGHT],
    "gaps": [PLACE, PLACE, REACH], "ahead": [PLACE, PLACE, REACH],
}
LISTED = ("row", "gaps")
PAIRED = ("near", "gaps", "ahead")


def all_within(numbers, bounds):
    return all(low <= number <= high for number, (low, high) in zip(numbers, bounds, strict=True))


def first_row(row):
    """The numbers of a first row, by the words of the document; None for what is none."""
    found = re.fullmatch(f"places {NUMBER} from {NUMBER} to {NUMBER}", row)
    if found is None:
        return None
    many, low, high = map(int, found.groups())
    return (many, low, high) if all_within([many, low, high], [(1, 8), (-50, 50), (low, 50)]) else None


def is_part_row(row, many):
    """Whether the row tells a part of a hall of so many places, by the words of the document."""
    found = re.fullmatch(f"((?:(?:times|moved) {NUMBER} )*)([a-z]+)((?: {NUMBER})+)", row)
    if found is None or found.group(3) not in SORTS:
        return False
    wraps = re.findall("(times|moved) ([^ ]+) ", found.group(1))
    sort, numbers = found.group(3), [int(number) for number in found.group(4).split()]
    wrap_bounds = [(1, 100) if wrap == "times" else (-100, 100) for wrap, _ in wraps]
    if len(wraps) > 8 or not all_within([int(number) for _, number in wraps], wrap_bounds):
        return False
    return are_numbers_of(sort, numbers) and stand_in(sort, numbers, many)


def are_numbers_of(sort, numbers):
    bounds = SORTS[sort]
    worths = numbers[len(bounds):]
    if len(numbers) < len(bounds) or not all_within(numbers[:len(bounds)], bounds):
        return False
    if sort in LISTED:
        steps = [after - before for before, after in zip(worths, worths[1:])]
        return 1 <= len(worths) <= 40 and all_within(worths, [WORTH] * len(worths)) and steps == sorted(steps)
    return worths == [] and (sort != "wall" or numbers[1] <= numbers[2])


def stand_in(sort, numbers, many):
    places = numbers[:2] if sort in PAIRED else numbers[:1]
    return len(set(places)) == len(places) and max(places) < many


def wrong_row(text):
    """The first row that is none, by the words of the document; None where each is one."""
    rows = text.split("\n")
    told = first_row(rows[0])
    if told is None:
        return 0
    for at, row in enumerate(rows):
        if at > 24 or at > 0 and not is_part_row(row, told[0]):
            return at
    return None


class TextCase(unittest.TestCase):
    def refused(self, text, row):
        with self.assertRaises(BadText) as caught:
            read(text)
        self.assertIs(type(caught.exception), BadText)
        self.assertEqual(caught.exception.row, row, text if isinstance(text, str) and len(text) < 500 else "")
        self.assertIs(type(caught.exception.row), int)

    def check(self, text):
        """Whether the text is a hall; it is read just if each row is one."""
        row = wrong_row(text)
        if row is not None:
            self.refused(text, row)
            return False
        hall = read(text)
        self.assertIs(type(hall), Hall)
        self.assertEqual(written(hall), text)
        return True


class InterfaceTest(unittest.TestCase):
    def test_the_functions(self):
        for function, told in ((written, "(hall)"), (read, "(text)")):
            self.assertEqual(function.__module__, "evenbend.texts")
            self.assertEqual(str(inspect.signature(function)), told)


class WrittenTest(TextCase):
    def written_so(self, hall, *rows):
        text = written(hall)
        self.assertEqual(text, "\n".join(rows))
        self.assertIs(type(text), str)
        self.assertEqual(written(read(text)), text)

    def test_the_rows_of_the_document(self):
        parts = [Slope(0, -3), Aim(1, 5, 2), Square(1, 5, 2), Row(0, 2, [4, 1, 0]), Wall(0, 1, 5), Near(0, 1, 5, 2),
                 Gaps(0, 1, -1, [4, 0, 4]), Ahead(0, 1, 3), Times(Slope(0, -3), 3), Moved(Slope(0, -3), -2)]
        self.written_so(Hall(3, parts), "places 3 from 0 to 20", "slope 0 -3", "aim 1 5 2", "square 1 5 2",
                        "row 0 2 4 1 0", "wall 0 1 5", "near 0 1 5 2", "gaps 0 1 -1 4 0 4", "ahead 0 1 3",
                        "times 3 slope 0 -3", "moved -2 slope 0 -3")

    def test_without_parts(self):
        self.written_so(Hall(1, []), "places 1 from 0 to 20")
        self.written_so(Hall(8, [], -50, 50), "places 8 from -50 to 50")
        self.written_so(Hall(2, [], -7, -7), "places 2 from -7 to -7")

    def test_default_values_are_written(self):
        self.written_so(Hall(2, [Aim(0, 1), Square(1, 1), Near(1, 0)]), "places 2 from 0 to 20", "aim 0 1 1",
                        "square 1 1 1", "near 1 0 0 1")

    def test_numbers_below_nought_and_the_greatest(self):
        parts = [Slope(7, -1000), Aim(7, -100, 0), Square(7, -100, 1000), Row(7, -100, [-1000000]), Wall(7, -100, -100),
                 Near(7, 0, -100, 1000), Gaps(0, 7, 100, [-1, -2, 1000000]), Ahead(7, 6, -100)]
        self.written_so(Hall(8, parts, -50, -50), "places 8 from -50 to -50", "slope 7 -1000", "aim 7 -100 0",
                        "square 7 -100 1000", "row 7 -100 -1000000", "wall 7 -100 -100", "near 7 0 -100 1000",
                        "gaps 0 7 100 -1 -2 1000000", "ahead 7 6 -100")

    def test_wrapped_parts(self):
        part = Gaps(1, 0, -1, [0, -1])
        self.written_so(Hall(2, [Times(Moved(part, -2), 3), Moved(Times(part, 3), -2), Moved(Moved(part, 0), 100)]),
                        "places 2 from 0 to 20", "times 3 moved -2 gaps 1 0 -1 0 -1", "moved -2 times 3 gaps 1 0 -1 0 -1",
                        "moved 100 moved 0 gaps 1 0 -1 0 -1")
        for part, row in ((Slope(0, 1), "slope 0 1"), (Aim(0, 1), "aim 0 1 1"), (Square(0, 1), "square 0 1 1"),
                          (Row(0, 1, [2]), "row 0 1 2"), (Wall(0, 1, 2), "wall 0 1 2"), (Near(0, 1), "near 0 1 0 1"),
                          (Gaps(0, 1, 2, [3]), "gaps 0 1 2 3"), (Ahead(0, 1, 2), "ahead 0 1 2")):
            self.written_so(Hall(2, [Times(part, 1)]), "places 2 from 0 to 20", "times 1 " + row)
            self.written_so(Hall(2, [Moved(part, 1)]), "places 2 from 0 to 20", "moved 1 " + row)
            for at in range(4):
                part, row = Moved(Times(part, at + 1), -at), f"moved {-at} times {at + 1} {row}"
            self.written_so(Hall(2, [part]), "places 2 from 0 to 20", row)

    def test_the_greatest_hall(self):
        part, row = Row(7, -100, list(range(-1000000, -999960))), "row 7 -100"
        row += "".join(f" {worth}" for worth in range(-1000000, -999960))
        for _ in range(8):
            part, row = Moved(part, -100), f"moved -100 {row}"
        self.written_so(Hall(8, [part] * 24, -50, -50), "places 8 from -50 to -50", *[row] * 24)

    def test_drawn_halls(self):
        for seed in range(500):
            plan = drawn_hall(seed, most_places=5, most_parts=12)
            self.assertEqual(written(plan.hall()), text_of(plan))


class ReadTest(TextCase):
    def test_drawn_halls(self):
        for seed in range(400):
            plan = drawn_hall(seed)
            self.assertTrue(self.check(text_of(plan)))
            self.check_same(plan, read(text_of(plan)))

    def check_same(self, plan, hall):
        """The hall is that of the plan: all its worths are, and those of each part, also where it bars."""
        self.assertEqual((len(hall.parts())), len(plan.plans))
        for point in Plan(plan.many, [], plan.low - 1, plan.high + 1).points():
            self.assertEqual(hall.worth(point), plan.worth(point), (plan, point))
        for part, expected in zip(hall.parts(), plan.hall().parts()):
            self.assertIs(type(part), type(expected))
            self.assertEqual((part.stands(), part.limits()), (expected.stands(), expected.limits()))
            for reads in range(-60, 61):
                self.assertEqual(part.worth_of(reads), expected.worth_of(reads))

    def test_by_hand(self):
        hall = read("places 2 from -1 to 4\ntimes 3 moved -2 aim 1 5 2\nahead 0 1 3")
        # Three times 2 * |4 + 2 - 5|.
        self.assertEqual(hall.worth([-1, 4]), 6)
        self.assertIsNone(hall.worth([4, 0]))
        self.assertIsNone(hall.worth([-2, 4]))
        self.assertEqual([type(part) for part in hall.parts()], [Times, Ahead])
        self.assertIs(type(read("places 1 from 0 to 0").parts()), list)

    def test_each_row_changed_by_one_sign(self):
        seen = {True: 0, False: 0}
        for seed in range(150):
            text = text_of(drawn_hall(seed, most_parts=4))
            rng = random.Random(seed)
            for _ in range(60):
                seen[self.check(with_a_sign_changed(rng, text))] += 1
        self.assertGreater(min(seen.values()), 500)

    def test_each_sign_of_a_text(self):
        text = "places 3 from -1 to 20\nslope 0 -3\nrow 2 0 4 1 0\ntimes 10 moved -2 gaps 0 1 -1 4 0 4"
        for at in range(len(text) + 1):
            self.check(text[:at])
            self.check(text[at:])
            self.check(text[:at] + text[at + 1:])
            for sign in " -+0129\n\t\r.,_ax":
                self.check(text[:at] + sign + text[at:])
                self.check(text[:at] + sign + text[at + 1:])

    def test_rows_put_in_taken_out_told_twice_and_exchanged(self):
        seen = {True: 0, False: 0}
        for seed in range(250):
            rows = text_of(drawn_hall(seed)).split("\n")
            for at in range(len(rows)):
                told = [rows[:at] + rows[at + 1:], rows[:at] + [rows[at]] + rows[at:]]
                told += [rows[:at] + [row] + rows[at:] for row in ("", " ", "slope 0 1", "slope 2 1", "wall 0 3 2", rows[0])]
                told.append(rows[:at] + rows[at:at + 2][::-1] + rows[at + 2:])
                for changed in told:
                    seen[self.check("\n".join(changed))] += 1
        self.assertGreater(min(seen.values()), 500)

    def test_the_first_of_several_wrong_rows(self):
        good, bad = "slope 0 1", "slope 0 1001"
        self.refused("\n".join(["places 1 from 0 to 9", good, bad, good, bad]), 2)
        self.refused("\n".join(["places 0 from 0 to 9", good, bad]), 0)
        self.refused("\n".join([good, "places 1 from 0 to 9"]), 0)
        self.refused("\n".join(["places 1 from 0 to 9"] + [good] * 25 + [bad]), 25)
        self.refused("\n".join(["places 1 from 0 to 9"] + [good] * 24 + [bad, bad]), 25)
        self.refused("\n".join(["places 1 from 0 to 9"] + [good] * 23 + [bad, bad]), 24)


def with_a_sign_changed(rng, text):
    """The text with one sign put in, left out or exchanged."""
    at = rng.randrange(len(text) + 1)
    sign = rng.choice([*"0123456789- \n", *"0123456789- \n", *"+_.,\t\r~abelmnoprstw", *text])
    put_in, left_out = rng.choice([(sign, 0), ("", 1), (sign, 1)])
    return text[:at] + put_in + text[at + left_out:]


class SignTest(TextCase):
    """Rows that differ by signs from what is written."""

    def check_rows(self, good, *bad):
        start = "places 3 from 0 to 20\nslope 0 1\n"
        self.assertTrue(self.check(start + good))
        for row in bad:
            with self.subTest(row=row):
                self.assertIsNotNone(wrong_row(start + row))
                self.refused(start + row, 2)
                self.refused(start + row + "\n" + good, 2)

    def test_numbers(self):
        self.check_rows("slope 0 3", "slope 0 03", "slope 0 +3", "slope 0 -03", "slope 0 3.0", "slope 0 3.", "slope 0 3_0",
                        "slope 0 0x3", "slope 0 3e0", "slope 0 --3", "slope 0 - 3", "slope 0 3-", "slope 0 three",
                        "slope 0 None", "slope 0 True", "slope 0 (3)", "slope 0 -", "slope 0 +", "slope 0 003")
        self.check_rows("slope 0 0", "slope 0 -0", "slope 0 00", "slope 0 +0", "slope -0 0", "slope 00 0", "slope +0 0")
        self.check_rows("slope 0 -30", "slope 0 -030", "slope 0 -3 0", "slope 0 - 30", "slope 0 -30-", "slope 0 -3_0")
        for zero in (0x660, 0x966, 0xFF10, 0x1D7CE):
            self.check_rows("slope 0 3", "slope 0 " + chr(zero + 3), "slope " + chr(zero) + " 3")
        self.check_rows("slope 0 3", "slope 0 " + chr(0xB3), "slope 0 " + chr(0x2083), "slope 0 " + chr(0x2212) + "3")

    def test_blanks(self):
        self.check_rows("slope 0 3", " slope 0 3", "slope 0 3 ", "slope  0 3", "slope 0  3", "slope\t0 3", "slope 0\t3",
                        "slope0 3", "slope 03", "slope 0,3", "slope 0 3\t", "\tslope 0 3", "slope 0 3\r", "slope 0\r3",
                        "slope" + chr(0xA0) + "0 3", "slope 0" + chr(0x2003) + "3", "slope 0 3\x0b", "slope 0 3\x0c",
                        "slope 0 3\x1c", "slope 0 3\x85", "slope 0 3" + chr(0x2028), "", " ", "  ", "\x00slope 0 3")
        self.check_rows("times 3 slope 0 3", "times  3 slope 0 3", "times 3  slope 0 3", " times 3 slope 0 3",
                        "times 3 slope 0 3 ", "times 3slope 0 3", "times3 slope 0 3", "times 3", "times", "times 3 ",
                        "times 3  ", "times slope 0 3", "times 3 times", "times 3 times 3", "times 3 moved -2 ", "moved")

    def test_words(self):
        self.check_rows("slope 0 3", "Slope 0 3", "SLOPE 0 3", "slopes 0 3", "lope 0 3", "slope", "slope 0", "slope 0 3 4",
                        "0 3", "slope slope 0 3", "part 0 3", "slope 3 0 1", "slope(0, 3)", "places 3 from 0 to 20")
        self.check_rows("aim 1 5 2", "aim 1 5", "aim 1 5 2 2", "aim", "aim 1", "Aim 1 5 2", "aims 1 5 2")
        self.check_rows("square 1 5 2", "square 1 5", "square 1 5 2 2", "square", "square 1")
        self.check_rows("row 0 2 4", "row 0 2", "row 0", "row", "rows 0 2 4", "row 0 2 4,3", "row 0 2 [4]", "row 0 2 4 ")
        self.check_rows("wall 0 1 5", "wall 0 1", "wall 0 1 5 5", "wall", "wall 0 5 1", "wall 0 1 0")
        self.check_rows("near 0 1 5 2", "near 0 1 5", "near 0 1", "near 0 1 5 2 2", "near 1 1 5 2", "near 0 1 2 -1")
        self.check_rows("gaps 0 1 -1 4", "gaps 0 1 -1", "gaps 0 1", "gaps", "gaps 0 0 -1 4", "gap 0 1 -1 4")
        self.check_rows("ahead 0 1 3", "ahead 0 1", "ahead 0", "ahead 0 1 3 3", "ahead 2 2 3", "ahead 0 1 None")
        self.check_rows("times 3 slope 0 3", "time 3 slope 0 3", "Times 3 slope 0 3", "3 times slope 0 3", "times 3 4 slope 0 3",
                        "slope 0 3 times 3", "slope 0 times 3 3", "times 03 slope 0 3", "times -0 slope 0 3", "times +3 slope 0 3")

    def test_worths_that_do_not_bend_evenly(self):
        self.check_rows("row 0 2 4 1 0", "row 0 2 4 1 0 -2", "row 0 2 0 1 0", "row 0 2 4 3 0")
        self.check_rows("gaps 0 1 2 4 1 0", "gaps 0 1 2 0 1 0", "times 2 gaps 0 1 2 0 1 0", "moved 1 gaps 0 1 2 4 3 0")

    def test_bounds(self):
        self.check_rows("slope 2 1000", "slope 3 1000", "slope 7 1", "slope 8 1", "slope -1 1", "slope 2 1001")
        self.check_rows("slope 2 -1000", "slope 2 -1001", "slope 2 10000", "slope 2 -" + "9" * 4000, "slope 2 " + "0" * 4000)
        self.check_rows("aim 2 -100 0", "aim 2 -101 0", "aim 2 101 0", "aim 2 0 -1", "aim 2 0 1001", "aim 3 0 1")
        self.check_rows("square 2 100 1000", "square 2 101 0", "square 2 0 1001", "square 2 0 -1", "square 3 0 1")
        self.check_rows("row 2 -100 -1000000", "row 2 -101 0", "row 2 101 0", "row 2 0 -1000001", "row 2 0 1000001", "row 3 0 0")
        self.check_rows("row 0 0" + " 7" * 40, "row 0 0" + " 7" * 41, "row 0 0" + " 7" * 1000)
        self.check_rows("wall 2 -100 100", "wall 2 -101 0", "wall 2 0 101", "wall 3 0 1")
        self.check_rows("near 2 0 -100 1000", "near 2 0 -101 0", "near 2 0 0 1001", "near 3 0 0 1", "near 0 3 0 1", "near 8 0 0 1")
        self.check_rows("gaps 2 0 100 0", "gaps 2 0 101 0", "gaps 0 3 0 0", "gaps 3 0 0 0", "gaps 2 0 0 1000001")
        self.check_rows("ahead 2 0 -100", "ahead 2 0 -101", "ahead 2 0 101", "ahead 0 3 0", "ahead 3 0 0")
        self.check_rows("times 1 slope 2 1", "times 0 slope 2 1", "times 101 slope 2 1", "times -1 slope 2 1", "times 1 slope 3 1")
        self.check_rows("times 100 slope 2 1", "moved 101 slope 2 1", "moved -101 slope 2 1", "moved 100 slope 3 1")

    def test_nine_wraps(self):
        self.check_rows("times 2 " * 8 + "slope 0 1", "times 2 " * 9 + "slope 0 1", "times 2 " * 10 + "slope 0 1")
        self.check_rows("moved -2 times 1 " * 4 + "ahead 0 1 2", "moved -2 times 1 " * 4 + "times 1 ahead 0 1 2",
                        "moved 1 " + "times 1 moved -2 " * 4 + "ahead 0 1 2")

    def test_a_twenty_fifth_part(self):
        rows = ["places 3 from 0 to 20"] + ["near 0 1 0 2"] * 24
        self.assertTrue(self.check("\n".join(rows)))
        for row in ("near 0 1 0 2", "slope 0 0", "", "slope 0 -0"):
            self.refused("\n".join(rows + [row]), 25)
        self.refused("\n".join(rows + ["slope 0 1"] * 50), 25)

    def test_first_rows(self):
        for row in ("places 1 from 0 to 0", "places 8 from -50 to 50", "places 2 from -3 to -3", "places 2 from 50 to 50"):
            self.assertTrue(self.check(row))
        for row in ("", " ", "places", "places 3", "places 3 from 0", "places 3 from 0 to", "places 3 from 0 to 20 ",
                    " places 3 from 0 to 20", "places  3 from 0 to 20", "places 3 from 0 to  20", "places 3 from 0 to 20.",
                    "Places 3 from 0 to 20", "place 3 from 0 to 20", "places 3 to 20 from 0", "places 3 from 20 to 0",
                    "places 0 from 0 to 20", "places 9 from 0 to 20", "places -1 from 0 to 20", "places 3 from -51 to 20",
                    "places 3 from 0 to 51", "places 3 from 51 to 51", "places 3 from 1 to 0", "places 03 from 0 to 20",
                    "places 3 from -0 to 20", "places 3 from +0 to 20", "places 3 from 00 to 20", "places 3 from 0 to 020",
                    "places 3 from 0 to 20 20", "places 3 from 0 to 20\r", "\nplaces 3 from 0 to 20", "slope 0 1",
                    "places three from 0 to 20", "places 3 from 0 until 20", "places 3 for 0 to 20", "places 3,0,20"):
            with self.subTest(row=row):
                self.assertEqual(wrong_row(row), 0)
                self.refused(row, 0)
                self.refused(row + "\nslope 0 1", 0)

    def test_line_ends(self):
        rows = ["places 3 from 0 to 20", "slope 0 1", "slope 1 2"]
        self.assertTrue(self.check("\n".join(rows)))
        self.refused("\n".join(rows) + "\n", 3)
        self.refused("\n".join(rows) + "\n\n", 3)
        self.refused("\n" + "\n".join(rows), 0)
        self.refused("\n\n".join(rows), 1)
        self.refused("places 3 from 0 to 20\n", 1)
        for end in ("\r\n", "\r", "\n\r", "\x0b", "\x0c", "\x1c", "\x85", chr(0x2028), "; ", " ", "\\n", ""):
            self.refused(end.join(rows), 1 if end == "\n\r" else 0)
            self.refused(rows[0] + "\n" + end.join(rows[1:]), 2 if end == "\n\r" else 1)

    def test_what_is_no_text(self):
        for value in [value for value in NO_LISTS if not isinstance(value, str)] + [
                b"", b"places 3 from 0 to 20", ["places 3 from 0 to 20"], ("places 3 from 0 to 20",), [], Hall(1, []), str]:
            self.refused(value, 0)


class LongTest(TextCase):
    def test_long_texts_in_a_short_time(self):
        start = time.process_time()
        good = "places 1 from 0 to 9\n"
        self.refused(good + "slope 0 1\n" * 300000, 25)
        self.refused("\n" * 1000000, 0)
        self.refused(" " * 1000000, 0)
        self.refused(good + "times 1 " * 300000 + "slope 0 1", 1)
        self.refused(good + "moved " * 300000, 1)
        self.refused(good + "row 0 0" + " 1" * 500000, 1)
        self.refused(good + "slope 0 " + "9" * 1000000, 1)
        self.refused(good + "slope 0 -" + "9" * 1000000, 1)
        self.refused("places " + "1" * 1000000 + " from 0 to 9", 0)
        self.refused("x" * 5000000, 0)
        self.assertLess(time.process_time() - start, 60)


class OwnTest(unittest.TestCase):
    def test_the_hall_stays_as_it_was(self):
        parts = [Slope(0, 5), Times(Row(1, 0, [1, 0]), 2)]
        hall = Hall(2, parts)
        text = written(hall)
        self.assertEqual(hall.parts(), parts)
        self.assertEqual(written(hall), text)
        self.assertEqual(text, "places 2 from 0 to 20\nslope 0 5\ntimes 2 row 1 0 1 0")

    def test_each_reading_tells_a_hall_of_its_own(self):
        text = "places 2 from 0 to 20\nslope 0 5"
        hall = read(text)
        hall.parts().clear()
        self.assertIsNot(read(text), hall)
        self.assertEqual(written(hall), text)
        self.assertEqual(hall.worth([2, 0]), 10)


if __name__ == "__main__":
    unittest.main()
