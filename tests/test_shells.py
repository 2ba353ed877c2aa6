"""A3, N7: shells, which do commands on a yard and answer."""

import itertools
import random
import re
import unittest

from tests.states import P, do, shown, some_state
from tests.values import ANY_VALUES, MOST, NO_INTEGERS, call_quick, check_names, repr_deep
from twobricks.errors import BrickError
from twobricks.papers import count_cuts, cut_at, is_filled
from twobricks.shells import Shell
from twobricks.sizes import along, next_side
from twobricks.yards import FullYard, Yard

# What follows the first word of each command: A a single digit, N a number from 0 on, S one from 1 on.
FORMS = {
    "side": ("AN",), "brick": ("AAN",), "swap": ("",), "turn": ("A", "AA", "AAA", "AAAA"), "stretch": ("AN",),
    "more": ("N",), "undo": ("",), "show": ("",), "paper": ("",), "filled": ("",), "news": ("",), "along": ("A",),
    "next": ("AS",), "cuts": ("",), "cut": ("N",),
}

RIGHT_LINES = (
    "side 0 7", "side 1 1", "side 1 1000000000000", "brick 0 1 2", "brick 1 0 12", "swap", "turn 0 1", "turn 1 0",
    "stretch 0 2", "more 6", "more 1000000000", "undo", "show", "paper", "filled", "news", "along 0", "along 1",
    "next 0 1", "next 1 7", "next 0 1000000000000", "cuts", "cut 0", "cut 1", "side 0 0", "side 2 5", "side 9 5",
    "brick 2 0 5", "brick 9 9 0", "brick 0 2 5", "brick 0 0 0", "turn 0", "turn 0 0", "turn 0 1 2", "turn 3 2 1 0",
    "turn 0 9", "stretch 0 0", "stretch 2 1", "stretch 0 1000000000000", "more 0", "more 1000000000000", "along 2",
    "along 9", "next 2 1", "next 9 1000000000000", "cut 2", "cut 1000000000000", "cut 999999999999", "cut 7",
)

# Lines near commands that are none.
WRONG_LINES = (
    "", " ", "  ", "what", "no", "side", "side ", "side 0", "side 0 ", "side  0 7", "side 0  7", " side 0 7",
    "side 0 7 ", "side 0 7 7", "Side 0 7", "SIDE 0 7", "side 00 7", "side 0 07", "side 0 00", "side 0 +7", "side 0 -7",
    "side -0 7", "side +0 7", "side 10 7", "side 0 7.0", "side 0 7e1", "side 0 0x7", "side 0 1_000",
    "side 0 1000000000001", "side 0 9999999999999", "side 0 10000000000000", "side 0 " + "9" * 1990, "side 0,7",
    "side,0,7", "side\t0\t7", "side 0 7\n", "side\n0 7", "\nside 0 7", "side 0 seven", "side zero 7", "side  ",
    "side 0 \n7", "side 01 7", "brick", "brick 0 1", "brick 0 1 2 3", "brick 00 1 2", "brick 0 10 2", "brick 10 0 2",
    "brick 0 0 02", "bricks 0 1 2", "brick  0 1 2", "brick 0 1 -2", "swap ", " swap", "swap 0", "swaps", "Swap",
    "swap swap", "swap\n", "turn", "turn ", "turn 0 1 2 3 0", "turn 0 1 2 3 4 5", "turn 01", "turn 0  1", "turn 10 1",
    "turn 1 10", "turn 0 -1", "turn (1, 0)", "turn 0,1", "turn 1 0 ", "Turn 1 0", "turn 0 x", "turn " + "0 " * 900,
    "stretch 0", "stretch 0 02", "stretch 0 2 2", "stretch 12 2", "stretch 0 1000000000001", "more", "more ",
    "more 01", "more 1 1", "more +1", "more -1", "+= 1", "more 1000000000001", "undo 1", "undo ", "Undo", "undo undo",
    "redo", "show 0", "show ", "SHOW", "shows", "paper 0", "papers", "filled?", "filled ", "fille", "news 1", "new",
    "along", "along ", "along 00", "along 10", "along 0 1", "along -1", "along x", "next", "next 0", "next 0 0",
    "next 9 0", "next 0 00", "next 0 01", "next 0 1000000000001", "next 0 1 1", "next 10 1", "next 0 -1", "next  0 1",
    "cuts 0", "cuts ", "cut", "cut ", "cut 00", "cut 01", "cut -1", "cut 1000000000001", "cut 0 0", "cut x",
    "cut None", "cut True", "version", "version 0", "pair", "box", "copy", "quit", "attempt", "0", "0 1", "_",
    "__init__", "x" * 2000, "side " * 400,
    # Digits and blanks of other scripts.
    "side \u0660 7", "side 0 \u0667", "side 0 \uff17", "side \uff10 7", "side 0 \u00b2", "cut \u0661", "more \u0966",
    "side\u00a00\u00a07", "side 0\u20037", "turn \u0661 \u0660", "\uff53wap", "sw\u0430p", "side 0 7\u0660",
    "cut 1\u200b", "next 0 \u0661", "next 0 7\u0660", "along \u0660", "side 0 \U0001d7d7", "swap\u2028",
    "side 0 1\u0000", "\x1cswap",
)


def is_right_word(word, letter):
    """Whether a word is a number of this form, by what it looks like."""
    if re.fullmatch(r"0|[1-9][0-9]{0,12}", word) is None:
        return False
    return len(word) == 1 if letter == "A" else int(word) <= MOST and (letter == "N" or word != "0")


def is_command(line):
    first, *words = line.split(" ")
    return any(len(form) == len(words) and all(map(is_right_word, words, form)) for form in FORMS.get(first, ()))


def joined(items):
    return " ".join(map(str, items))


def plain_answer(yard, line):
    """What a shell must answer; does on this yard what the line says."""
    if not isinstance(line, str) or not is_command(line):
        return "what"
    word, *numbers = line.split(" ")
    numbers = list(map(int, numbers))
    if word in ("along", "next") and numbers[0] >= len(yard.box):
        return "no NoAxis"
    try:
        if word in ("side", "brick", "swap", "stretch", "more", "undo"):
            return "version " + str(do(yard, (word, *numbers)))
        if word == "turn":
            return "version " + str(yard.turn(tuple(numbers)))
        if word == "cut":
            return joined(cut_at(yard.pair, yard.box, numbers[0]))
    except BrickError as error:
        return "no " + error.__class__.__name__
    if word == "next":
        side = next_side(yard.pair, yard.box, *numbers)
        return "none" if side is None else str(side)
    return {
        "show": lambda: str(yard), "paper": lambda: joined(yard.paper), "news": lambda: yard.news,
        "filled": lambda: "yes" if is_filled(yard.pair, yard.box) else "no",
        "along": lambda: joined(along(yard.pair, yard.box, numbers[0])),
        "cuts": lambda: str(count_cuts(yard.pair, yard.box)),
    }[word]()


def some_yards():
    """Yards of all dimensions, filled and not, some with edits."""
    yield Yard(P, (5, 6))
    yield Yard(P, (1, 1))
    yield FullYard(P, (5, 6))
    yield Yard(((2,), (3,)), (MOST,))
    yield Yard(((MOST,), (MOST - 1,)), (7,))
    yield Yard(((2, 2, 2, 2), (3, 3, 3, 3)), (5, 6, 6, 6))
    yard = Yard(P, (6, 6))
    yard.attempt([("side", 0, 5), ("side", 1, 5)])
    yield yard
    yard = Yard(P, (6, 6))
    for _ in range(30):
        yard.swap()
    yield yard
    rng = random.Random(1)
    for _ in range(12):
        yield Yard(*some_state(rng))


class DocumentTest(unittest.TestCase):
    def test_examples(self):
        shell = Shell(Yard(((2, 2), (3, 3)), (5, 6)))
        self.assertEqual(
            [shell(line) for line in ("filled", "along 0", "next 1 7", "cuts", "cut 1", "side 0 1", "paper",
                                      "side 2 1", "cut 0", "undo", "show", "turn 0")],
            ['yes', 'sums 2 3', '12', '2', '1 0 3', 'version 1', 'gap 0 2 1', 'no NoAxis', 'no NoNumber', 'version 0',
             '2x2 3x3 in 5x6: filled', 'no BadOrder'])

    def test_by_name(self):
        yard = Yard(P, (5, 6))
        shell = Shell(yard=yard)
        check_names(self, shell, value="cuts")
        check_names(self, shell.execute, value="cuts")
        self.assertEqual(shell(value="swap"), "version 1")
        self.assertEqual(yard.version, 1)


class AnswerTest(unittest.TestCase):
    def check(self, yard, line):
        """Says a line to new shells on copies of the yard, by both ways; returns the answer."""
        answers, shows = [], []
        for say in (Shell.__call__, Shell.execute):
            twin = yard.copy()
            shell = Shell(twin)
            answers.append(call_quick(self, say, shell, line))
            self.assertEqual(shell.heard, ((line, answers[-1]),))
            shows.append(shown(twin))
        other = yard.copy()
        answers.append(plain_answer(other, line))
        self.assertEqual(repr_deep(answers[0]), repr_deep(answers[2]), line)
        self.assertEqual(repr_deep(answers[1]), repr_deep(answers[2]), line)
        self.assertEqual(shows, [shown(other)] * 2, line)
        return answers[0]

    def test_right_lines(self):
        found = set()
        for yard in some_yards():
            for line in RIGHT_LINES:
                answer = self.check(yard, line)
                self.assertNotEqual(answer, "what", line)
                found.add(answer if answer.startswith("no ") else "")
        self.assertLessEqual({"no NoAxis", "no BadSide", "no NoKind", "no BadOrder", "no TooLarge", "no TooManyEdits",
                              "no NothingToUndo", "no NoNumber", "no NotFilled"}, found)

    def test_wrong_lines(self):
        for yard in (Yard(P, (5, 6)), FullYard(P, (5, 6)), Yard(((2,) * 4, (3,) * 4), (1, 2, 3, 4))):
            for line in WRONG_LINES:
                self.assertEqual(self.check(yard, line), "what", repr(line))

    def test_lines_with_one_sign_otherwise(self):
        yard = Yard(P, (6, 6))
        yard.swap()
        for line in ("side 0 7", "brick 1 0 4", "swap", "turn 1 0", "stretch 1 2", "more 6", "undo", "show", "paper",
                     "filled", "news", "along 0", "next 0 5", "cuts", "cut 3", "side 1 1000000000000"):
            for place in range(len(line) + 1):
                others = [line[:place], line[place:], line[:place] + line[place + 1:], line[:place + 1] + line[place:]]
                for sign in ("0", "1", "9", " ", "  ", "\n", "-", "+", "s", "A", "_", "\u0661"):
                    others += [line[:place] + sign + line[place:], line[:place] + sign + line[place + 1:]]
                for other in others:
                    self.assertEqual(Shell(yard.copy())(other), plain_answer(yard.copy(), other), repr(other))

    def test_each_sign_in_a_number(self):
        yard = Yard(P, (6, 6))
        for sign in map(chr, range(256)):
            for line in ("side 0 " + sign, "side " + sign + " 7", "side 0 1" + sign, "cut " + sign + "1",
                         "turn 1 " + sign):
                self.assertEqual(Shell(yard.copy())(line), plain_answer(yard.copy(), line), repr(line))

    def test_all_short_forms(self):
        yard = Yard(P, (6, 6))
        for first in list(FORMS) + ["copy", ""]:
            for length in range(6):
                for words in itertools.product(("0", "1"), repeat=length):
                    line = " ".join((first,) + words)
                    self.assertEqual(Shell(yard.copy())(line), plain_answer(yard.copy(), line), line)

    def test_no_strings(self):
        for value in ANY_VALUES + NO_INTEGERS + (["swap"], ("swap",), {"swap": 1}, 0, 1, b"swap"):
            if isinstance(value, str):
                continue
            for say in (Shell.__call__, Shell.execute):
                yard = Yard(P, (5, 6))
                shell, before = Shell(yard), shown(yard)
                self.assertEqual(say(shell, value), "what")
                self.assertEqual(shell.heard, ((None, "what"),))
                self.assertEqual(shown(yard), before)

    def test_very_long_lines(self):
        for line in ("side 0 " + "1" * 5000, "cut " + "0" * 5000, "1" * 5000, "swap " * 5000, "x" * 10 ** 5,
                     "turn" + " 0" * 5000):
            self.assertEqual(self.check(Yard(P, (5, 6)), line), "what")

    def test_known_answers(self):
        for yard, line, answer in (
            (Yard(P, (1, 1)), "next 0 1", "none"), (Yard(P, (1, 1)), "along 0", "none"),
            (Yard(P, (1, 1)), "cuts", "0"), (Yard(P, (5, 6)), "along 1", "steps 6"),
            (Yard(P, (1, 6)), "filled", "no"), (Yard(P, (5, 6)), "news", "same"),
            (Yard(P, (5, 6)), "next 1 1000000000000", "1000000000002"), (Yard(P, (5, 6)), "next 2 1", "no NoAxis"),
            (Yard(((2,), (3,)), (MOST,)), "cuts", "333333333334"),
            (Yard(((2,), (3,)), (1,)), "undo", "no NothingToUndo"),
            (Yard(((2,), (3,)), (MOST,)), "more 1", "no TooLarge"),
            (Yard(((2,), (3,)), (5,)), "more 0", "no BadSide"),
            (FullYard(P, (5, 6)), "side 0 1", "no NotFilled"),
            (Yard(P, (5, 6)), "side 0 1000000000000", "version 1"),
            (Yard(P, (5, 6)), "next 0 0", "what"), (Yard(P, (5, 6)), "side 0 0", "no BadSide"),
            (Yard(P, (5, 5)), "paper", None), (Yard(P, (5, 6)), "brick 2 9 0", "no NoKind"),
            (Yard(P, (5, 6)), "paper", None), (Yard(P, (5, 6)), "turn 1 0", "version 1"),
        ):
            told = self.check(yard, line)
            if answer is not None:
                self.assertEqual(told, answer, line)

    def test_many_lines(self):
        rng = random.Random(2)
        for made in (Yard, FullYard):
            yard = made(P, (6, 6))
            shell, other = Shell(yard), yard.copy()
            for _ in range(600):
                line = rng.choice(RIGHT_LINES + RIGHT_LINES + WRONG_LINES[:60] + ("swap", "undo", "undo", None))
                self.assertEqual(rng.choice((shell, shell.execute))(line), plain_answer(other, line), line)
                self.assertEqual(shown(yard), shown(other))


class HeardTest(unittest.TestCase):
    def test_the_last_ten(self):
        shell, said = Shell(Yard(P, (5, 6))), []
        self.assertEqual(repr_deep(shell.heard), repr_deep(()))
        lines = ("swap", "x", None, "side 0 1", "paper", 5, "undo", "", "undo", "undo", ["swap"], "cut 0", "show",
                 "side 2 1")
        for at, line in enumerate(lines * 3):
            answer = (shell, shell.execute)[at % 2](line)
            said.append((line if isinstance(line, str) else None, answer))
            self.assertEqual(repr_deep(shell.heard), repr_deep(tuple(said[-10:])))
            self.assertEqual(len(shell.heard), min(at + 1, 10))

    def test_what_was_heard_stays(self):
        shell = Shell(Yard(P, (5, 6)))
        shell("swap")
        heard = shell.heard
        shell("undo")
        self.assertEqual(heard, (("swap", "version 1"),))
        for value in ((), None):
            with self.assertRaises(AttributeError):
                shell.heard = value
        self.assertEqual(shell.heard, (("swap", "version 1"), ("undo", "version 0")))

    def test_what_is_done_otherwise_is_not_heard(self):
        yard = Yard(P, (5, 6))
        shell = Shell(yard)
        yard.swap()
        self.assertEqual(shell("undo"), "version 0")
        self.assertEqual(shell.heard, (("undo", "version 0"),))


class YardsTest(unittest.TestCase):
    def test_two_shells_on_one_yard(self):
        yard = Yard(P, (5, 6))
        one, other = Shell(yard), Shell(yard)
        self.assertEqual(one("side 0 1"), "version 1")
        self.assertEqual(other("news"), "barred")
        self.assertEqual(other.execute("side 0 4"), "version 2")
        self.assertEqual(one("show"), "2x2 3x3 in 4x6: filled")
        self.assertEqual(one("undo"), "version 1")
        self.assertEqual(yard.box, (1, 6))
        self.assertEqual(one.heard,
                         (("side 0 1", "version 1"), ("show", "2x2 3x3 in 4x6: filled"), ("undo", "version 1")))
        self.assertEqual(other.heard, (("news", "barred"), ("side 0 4", "version 2")))

    def test_this_very_yard(self):
        yard = Yard(P, (5, 6))
        shell = Shell(yard)
        yard.side(0, 1)
        self.assertEqual(shell("filled"), "no")
        yard += 3
        self.assertEqual(shell("show"), "2x2 3x3 in 4x9: barred")
        self.assertEqual(shell("more 2"), "version 3")
        self.assertEqual(yard.box, (6, 11))
        self.assertEqual(shell("stretch 1 2"), "version 4")
        self.assertEqual(yard.state_at(), (((2, 4), (3, 6)), (6, 22)))

    def test_busy(self):
        for made in (Yard, FullYard):
            yard, seen = made(P, (6, 6)), []
            shell = Shell(yard)

            def on_step(told):
                before = shown(told)
                for line in ("side 0 5", "side 9 0", "brick 0 0 1", "brick 9 9 0", "swap", "turn 1 0", "turn 9",
                             "stretch 0 2", "more 1", "more 0", "undo"):
                    seen.append(shell(line))
                    self.assertEqual(Shell(told).execute(line), "no Busy")
                self.assertEqual([shell("filled"), shell("news"), shell("cuts"), shell("side 0")],
                                 ["yes", "same", str(count_cuts(told.pair, told.box)), "what"])
                self.assertEqual(shell("show"), str(told))
                self.assertEqual(Shell(told.copy())("swap"), "version " + str(told.version + 1))
                self.assertEqual(shown(told), before)

            yard.attempt([("side", 0, 12), ("swap",)], on_step=on_step)
            self.assertEqual(seen, ["no Busy"] * 22)
            self.assertEqual(shell("swap"), "version 3")

    def test_too_many_edits(self):
        yard = Yard(P, (5, 6))
        shell = Shell(yard)
        for version in range(1, 31):
            self.assertEqual(shell("swap"), "version " + str(version))
        for line in ("swap", "side 9 0", "more 0", "turn 9", "brick 9 9 0"):
            self.assertEqual(shell(line), "no TooManyEdits")
        self.assertEqual(shell("undo"), "version 29")
        self.assertEqual(shell("side 9 0"), "no NoAxis")


if __name__ == "__main__":
    unittest.main()
