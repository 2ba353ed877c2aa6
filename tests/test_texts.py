"""A3, A6: the texts of sides and kinds."""

import itertools
import re
import unittest

from tests.values import ANY_VALUES, MOST, call_unchanged
from twobricks.errors import BadText
from twobricks.texts import kinds_text, parse_kinds, parse_sides, sides_text

SOME_SIDES = tuple(
    sides for many in (1, 2, 3, 4) for sides in itertools.product((1, 10, 203, MOST), repeat=many)
)
SOME_KINDS = tuple(
    tuple(sides[:many] for sides in kinds)
    for many in (1, 2, 3, 4) for count in (1, 2, 3, 4)
    for kinds in itertools.product(((5, 6, 7, 8), (MOST, 1, 30, 999999999999), (1, 1, 1, 1)), repeat=count)
)

# What is put at each place of a text to spoil it.
SIGNS = ("0", "1", "9", "x", "X", " ", "  ", "\n", "-", "+", ",", "a", "e", ".", "_", "(", "*", "xx", "x1", " 1", "~")

SIDES_TO_SPOIL = ("5", "10", "5x6", "10x1", "1x2x3", "1x2x3x4", "1000000000000", "3x1000000000000x2")
KINDS_TO_SPOIL = SIDES_TO_SPOIL + (
    "2x2 3x3", "1 20", "1 2 3 4", "1x2 3x4 5x6", "1x2x3x4 5x6x7x8", "1x1 1x1 1x1 1x1", "7 1000000000000",
)

# Each with the places that parse_sides and parse_kinds must tell; None where the text is right.
KNOWN = (
    ("", 0, 0), ("0", 0, 0), ("01", 0, 0), ("00", 0, 0), ("x", 0, 0), ("X", 0, 0), (" ", 0, 0), ("\n", 0, 0),
    ("-1", 0, 0), ("+1", 0, 0), ("a", 0, 0), (" 1", 0, 0), ("x1", 0, 0), ("1x", 2, 2), ("1x0", 2, 2), ("1x01", 2, 2),
    ("1x-1", 2, 2), ("1xx1", 2, 2), ("1X1", 1, 1), ("1,1", 1, 1), ("1.0", 1, 1), ("1_0", 1, 1), ("1e3", 1, 1),
    ("1x2x3x4", None, None), ("1x2x3x4x", 7, 7), ("1x2x3x4x5", 7, 7), ("10x1", None, None),
    ("999999999999", None, None), ("1000000000000", None, None), ("1000000000001", 12, 12),
    ("1000000000010", 12, 12), ("10000000000000", 13, 13), ("9999999999999", 12, 12), ("2000000000000", 12, 12),
    ("1x1000000000001", 14, 14), ("1000000000000x1000000000000", None, None), ("1000000000000x", 14, 14),
    ("5\n", 1, 1), ("5 ", 1, 2), ("5  6", 1, 2), ("5 6", 1, None), ("5 0", 1, 2), ("5 6x7", 1, 3), ("5 x", 1, 2),
    ("5x6 ", 3, 4), ("5x6  7x8", 3, 4), ("5x6\n7x8", 3, 3), ("5x6\n", 3, 3), ("5x6 7x8\n", 3, 7), ("5x 6", 2, 2),
    ("2x2 ", 3, 4), ("2x2 3", 3, 5), ("2x2 3x", 3, 6), ("2x2 3x3", 3, None), ("2x2 3x3x", 3, 7), ("2x2 3 1", 3, 5),
    ("2x2 3x3x3", 3, 7), ("2x2 3x3 ", 3, 8), ("2x2 3x3 1", 3, 9), ("2x2 30", 3, 6), ("2x2 3x3 1x1 4x4", 3, None),
    ("2x2 3x3 1x1 4x4 ", 3, 15), ("2x2 3x3 1x1 4x4 5x5", 3, 15), ("1 2 3 4", 1, None), ("1 2 3 4 5", 1, 7),
    ("1 2 3 4 ", 1, 7), ("1 2 3 4x", 1, 7), ("1x2x3 4x5", 5, 9), ("1x2x3x4 5x6x7x8x9", 7, 15),
    ("2x2 1000000000001x1", 3, 16), ("2x2 03x3", 3, 4), ("2x2 3x03", 3, 6), ("1" * 2000, 12, 12),
    ("x" * 2000, 0, 0), ("1 " * 1000, 1, 7), ("1x" * 1000, 7, 7), ("0" * 2000, 0, 0),
)


def full_number(text):
    return re.fullmatch("[1-9][0-9]*", text) is not None and len(text) <= 13 and int(text) <= MOST


def begins_sides(text, most):
    """Whether text is the beginning of a text of at most so many sides."""
    *numbers, last = text.split("x")
    return len(numbers) < most and all(map(full_number, numbers)) and (last == "" or full_number(last))


def sides_in(text):
    """The sides whose text this is, or None."""
    if begins_sides(text, 4) and full_number(text.split("x")[-1]):
        return tuple(map(int, text.split("x")))
    return None


def begins_kinds(text):
    """Whether text is the beginning of a text of kinds."""
    *words, last = text.split(" ")
    if len(words) > 3 or None in map(sides_in, words):
        return False
    dimensions = set(len(sides_in(word)) for word in words)
    return len(dimensions) < 2 and begins_sides(last, max(dimensions, default=4))


def kinds_in(text):
    """The kinds whose text this is, or None."""
    kinds = tuple(map(sides_in, text.split(" ")))
    if begins_kinds(text) and kinds[-1] is not None and len(kinds[-1]) == len(kinds[0]):
        return kinds
    return None


def first_wrong(begins, text):
    """The index of the first sign with which text is no longer a beginning, or how many signs there are."""
    return min([place for place in range(len(text)) if not begins(text[:place + 1])], default=len(text))


def spoiled(text):
    """text, and text with a sign left out, put in, put otherwise or put twice at each place, and cut off there."""
    yield text
    for place in range(len(text) + 1):
        yield text[:place]
        yield text[place:]
        yield text[:place] + text[place + 1:]
        yield text[:place + 1] + text[place:]
        for sign in SIGNS:
            yield text[:place] + sign + text[place:]
            yield text[:place] + sign + text[place + 1:]


class TextsTest(unittest.TestCase):
    def place_told(self, parse, value):
        with self.assertRaises(BadText) as held:
            parse(value)
        return held.exception.place

    def check(self, parse, right, begins, text):
        expected = right(text)
        if expected is None:
            self.assertEqual(self.place_told(parse, text), first_wrong(begins, text), repr(text))
        else:
            self.assertEqual(call_unchanged(self, parse, text), expected, repr(text))

    def test_examples(self):
        self.assertEqual(
            [sides_text((5, 6)), kinds_text(((2, 2), (3, 3))), parse_sides("10x1"), parse_kinds("2x2 3x3")],
            ['5x6', '2x2 3x3', (10, 1), ((2, 2), (3, 3))])
        self.assertEqual(self.place_told(parse_kinds, "2x2 3 1"), 5)
        self.assertEqual(self.place_told(parse_sides, "1000000000001"), 12)
        self.assertEqual(self.place_told(parse_kinds, "1000000000001"), 12)
        self.assertEqual(self.place_told(parse_kinds, "2x2 3"), 5)

    def test_by_name(self):
        self.assertEqual(sides_text(sides=(5, 6)), "5x6")
        self.assertEqual(kinds_text(kinds=((2, 2), (3, 3))), "2x2 3x3")
        self.assertEqual(parse_sides(value="10x1"), (10, 1))
        self.assertEqual(parse_kinds(value="2x2 3x3"), ((2, 2), (3, 3)))

    def test_sides_there_and_back(self):
        for sides in SOME_SIDES:
            text = call_unchanged(self, sides_text, sides)
            self.assertEqual(text, "x".join(map(str, sides)))
            self.assertEqual(call_unchanged(self, parse_sides, text), sides)
            self.assertEqual(call_unchanged(self, parse_kinds, text), (sides,))

    def test_kinds_there_and_back(self):
        for kinds in SOME_KINDS:
            text = call_unchanged(self, kinds_text, kinds)
            self.assertEqual(text, " ".join("x".join(map(str, sides)) for sides in kinds))
            self.assertEqual(call_unchanged(self, parse_kinds, text), kinds)

    def test_known_places(self):
        for text, sides_place, kinds_place in KNOWN:
            for parse, place in ((parse_sides, sides_place), (parse_kinds, kinds_place)):
                if place is None:
                    parse(text)
                else:
                    self.assertEqual(self.place_told(parse, text), place, repr(text))

    def test_spoiled_sides(self):
        for right in KINDS_TO_SPOIL:
            for text in spoiled(right):
                self.check(parse_sides, sides_in, lambda part: begins_sides(part, 4), text)

    def test_spoiled_kinds(self):
        for right in KINDS_TO_SPOIL:
            for text in spoiled(right):
                self.check(parse_kinds, kinds_in, begins_kinds, text)

    def test_all_short_texts(self):
        for many in range(8):
            for signs in itertools.product("1x ", repeat=many):
                text = "".join(signs)
                self.check(parse_sides, sides_in, lambda part: begins_sides(part, 4), text)
                self.check(parse_kinds, kinds_in, begins_kinds, text)

    def test_near_the_longest_side(self):
        for number in [*range(MOST - 20, MOST + 200), MOST * 10 - 1, MOST * 10, MOST * 10 + 5, 10 ** 30]:
            for text in (str(number), f"{number}x1", f"1x{number}", f"1 {number}", f"1x1 1x{number}"):
                self.check(parse_sides, sides_in, lambda part: begins_sides(part, 4), text)
                self.check(parse_kinds, kinds_in, begins_kinds, text)

    def test_no_string(self):
        values = [value for value in ANY_VALUES if not isinstance(value, str)]
        for value in values + [["5x6"], ["2x2", "3x3"], ("5x6",), {"5x6": "5x6"}, 5, (5, 6), ["5", "x", "6"]]:
            self.assertIsNone(self.place_told(parse_sides, value))
            self.assertIsNone(self.place_told(parse_kinds, value))


if __name__ == "__main__":
    unittest.main()
