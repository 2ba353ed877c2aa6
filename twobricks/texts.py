"""The texts of sides and of kinds, there and back."""

from twobricks.bounds import MAX_DIMS, MAX_KINDS, MAX_SIDE
from twobricks.errors import BadText


def sides_text(sides):
    """The text of sides, such as "5x6"."""
    return "x".join([str(side) for side in sides])


def kinds_text(kinds):
    """The text of kinds, such as "2x2 3x3"."""
    return " ".join([sides_text(sides) for sides in kinds])


def number_at(text, start):
    """The number that begins at start, and the place behind it; the number is 0 if no side begins there.

    It ends ahead of a digit that would make it no side any more (a nought ahead, or too great). No sign that may
    stand behind a number is a digit, so whoever goes on at this place finds the wrong sign there.
    """
    number = 0
    for place in range(start, len(text)):
        digit = "0123456789".find(text[place])
        longer = number * 10 + digit
        if digit < 0 or not 1 <= longer <= MAX_SIDE:
            return (number, place)
        number = longer
    return (number, len(text))


def sides_at(text, start, least, most):
    """The sides, least to most of them, whose text begins at start, and the place behind it; raises BadText."""
    sides = []
    place = start
    while True:
        number, place = number_at(text, place)
        if number == 0:
            raise BadText(place)
        sides.append(number)
        if len(sides) == most or place == len(text) or text[place] != "x":
            break
        place = place + 1
    if len(sides) < least:
        raise BadText(place)
    return (tuple(sides), place)


def parse_sides(value):
    """The sides whose text value is; raises BadText."""
    if not isinstance(value, str):
        raise BadText(None)
    sides, place = sides_at(value, 0, 1, MAX_DIMS)
    if place < len(value):
        raise BadText(place)
    return sides


def parse_kinds(value):
    """The kinds whose text value is; raises BadText."""
    if not isinstance(value, str):
        raise BadText(None)
    first, place = sides_at(value, 0, 1, MAX_DIMS)
    kinds = [first]
    while place < len(value):
        if value[place] != " " or len(kinds) == MAX_KINDS:
            raise BadText(place)
        sides, place = sides_at(value, place + 1, len(first), len(first))
        kinds.append(sides)
    return tuple(kinds)
