"""Shells, which do commands in words on a yard."""

from twobricks.bounds import MAX_DIMS, MAX_SIDE
from twobricks.errors import BrickError, NoAxis
from twobricks.forms import is_index
from twobricks.papers import count_cuts, cut_at
from twobricks.sizes import along, next_side

# What follows the first word of a command: A a single digit, N a number, S a number from 1 on.
FORMS = {
    "side": "AN", "brick": "AAN", "swap": "", "stretch": "AN", "more": "N", "undo": "", "show": "", "paper": "",
    "filled": "", "news": "", "along": "A", "next": "AS", "cuts": "", "cut": "N",
}

# How many of the last things that were said are kept.
KEPT = 10


def number_in(word, letter):
    """The number that a word of this form is in decimal, without noughts ahead; None if it is of another form."""
    most = 9 if letter == "A" else MAX_SIDE
    least = 1 if letter == "S" else 0
    # The length is looked at first: Python itself refuses to read very long numbers.
    if word == "" or len(word) > len(str(most)) or not all([sign in "0123456789" for sign in word]):
        return None
    number = int(word)
    return number if least <= number <= most and str(number) == word else None


def form_of(words):
    """What must follow the first word; None if no command begins with it."""
    if words[0] == "turn":
        return "A" * max(1, min(len(words) - 1, MAX_DIMS))
    return FORMS.get(words[0], None)


def numbers_in(words):
    """The numbers behind the first word; None if the words are no command."""
    form = form_of(words)
    if form is None or len(form) != len(words) - 1:
        return None
    numbers = [number_in(word, letter) for word, letter in zip(words[1:], form)]
    return None if None in numbers else numbers


def text_of(items):
    """The items with single spaces between them."""
    return " ".join([str(item) for item in items])


def do_side(yard, axis, number):
    """The answer to "side A N"."""
    return f"version {yard.side(axis, number)}"


def do_brick(yard, kind, axis, number):
    """The answer to "brick K A N"."""
    return f"version {yard.brick(kind, axis, number)}"


def do_swap(yard):
    """The answer to "swap"."""
    return f"version {yard.swap()}"


def do_turn(yard, *order):
    """The answer to "turn A ..", for one axis or more."""
    return f"version {yard.turn(order)}"


def do_stretch(yard, axis, number):
    """The answer to "stretch A N"."""
    return f"version {yard.stretch(axis, number)}"


def do_more(yard, number):
    """The answer to "more N"."""
    yard += number
    return f"version {yard.version}"


def do_undo(yard):
    """The answer to "undo"."""
    return f"version {yard.undo()}"


def do_show(yard):
    """The answer to "show"."""
    return str(yard)


def do_paper(yard):
    """The answer to "paper"."""
    return text_of(yard.paper)


def do_filled(yard):
    """The answer to "filled"."""
    return "yes" if bool(yard) else "no"


def do_news(yard):
    """The answer to "news"."""
    return yard.news


def check_axis(yard, axis):
    """Raises NoAxis if this is the number of no axis."""
    if not is_index(axis, len(yard)):
        raise NoAxis(axis)


def do_along(yard, axis):
    """The answer to "along A"."""
    check_axis(yard, axis)
    return text_of(along(yard.pair, yard.box, axis))


def do_next(yard, axis, least):
    """The answer to "next A N"."""
    check_axis(yard, axis)
    side = next_side(yard.pair, yard.box, axis, least)
    return "none" if side is None else str(side)


def do_cuts(yard):
    """The answer to "cuts"."""
    return str(count_cuts(yard.pair, yard.box))


def do_cut(yard, number):
    """The answer to "cut N"."""
    return text_of(cut_at(yard.pair, yard.box, number))


COMMANDS = {
    "side": do_side, "brick": do_brick, "swap": do_swap, "turn": do_turn, "stretch": do_stretch, "more": do_more,
    "undo": do_undo, "show": do_show, "paper": do_paper, "filled": do_filled, "news": do_news, "along": do_along,
    "next": do_next, "cuts": do_cuts, "cut": do_cut,
}


def answer_to(yard, line):
    """The answer to a line: what its command tells, "no" and the name of the error that it raises, or "what"."""
    words = line.split(" ")
    numbers = numbers_in(words)
    if numbers is None:
        return "what"
    command = COMMANDS[words[0]]
    try:
        return command(yard, *numbers)
    except BrickError as error:
        return "no " + str(error)


class Shell:
    """Does commands on a yard and answers."""

    def __init__(self, yard):
        self._yard = yard
        self._heard = ()

    @property
    def heard(self):
        """The last lines, None for what was no string, with their answers."""
        return self._heard

    def execute(self, value):
        """Does a command and returns the answer."""
        line = value if isinstance(value, str) else None
        answer = "what" if line is None else answer_to(self._yard, line)
        self._heard = (self._heard + ((line, answer),))[-KEPT:]
        return answer

    def __call__(self, value):
        return self.execute(value)
