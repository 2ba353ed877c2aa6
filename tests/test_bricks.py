"""A3, N1: Bricks, the value of a pair."""

import itertools
import random
import unittest

from tests.values import (
    ANY_VALUES, MOST, NO_INTEGERS, NO_SIDES, NO_TUPLES, call_unchanged, check_error, check_names, check_raises,
    is_integer, put, raised_by, repr_deep, some_pair,
)
from twobricks.bounds import MAX_DIMS
from twobricks.bricks import Bricks
from twobricks.errors import BadBox, BadKinds, BadSide, BadText, NoKind, TooLarge, UnlikeAxes
from twobricks.forms import box_error, pair_error
from twobricks.pairs import atoms, within
from twobricks.papers import is_filled, paper, paper_holds
from twobricks.texts import kinds_text, parse_kinds

P = ((2, 2), (3, 3))


def some_pairs(count, seed):
    rng = random.Random(seed)
    for _ in range(count):
        yield some_pair(rng, rng.randint(1, 4), rng.choice((3, 20, MOST)))


class DocumentTest(unittest.TestCase):
    def test_examples(self):
        bricks = Bricks((2, 2), (3, 3))
        self.assertEqual(
            [(5, 6) in bricks, (5, 5) in bricks, bricks((1, 6)), bricks[1], len(bricks), list(bricks), (~bricks).one,
             (bricks * 2).pair, str(bricks), Bricks.read("2x2 3x3") == bricks,
             bricks.within(Bricks((1, 2), (3, 1)))],
            [True, False, ('gap', 0, 2, 1), (3, 3), 2, [(2, 2), (3, 3)], (3, 3), ((4, 4), (6, 6)), '2x2 3x3', True,
             True])

    def test_by_name(self):
        self.assertEqual(Bricks(one=(2, 2), other=(3, 3)).pair, P)
        self.assertEqual(Bricks(other=(3, 3), one=(2, 2)).pair, P)
        self.assertEqual(Bricks((2, 2), other=(3, 3)).pair, P)
        bricks = Bricks(*P)
        self.assertEqual(bricks(box=(5, 6)), bricks((5, 6)))
        self.assertEqual(bricks.within(other=Bricks((2, 1), (3, 1))), True)
        self.assertEqual(Bricks.read(value="2x2 3x3").pair, P)
        check_names(self, bricks, box=(1, 6))


class MadeTest(unittest.TestCase):
    def check_bad(self, one, other):
        error = pair_error((one, other))
        self.assertIsNotNone(error)
        check_error(self, BadKinds, {"error": error}, Bricks, one, other)

    def test_properties(self):
        for pair in some_pairs(100, seed=1):
            bricks = Bricks(*pair)
            self.assertEqual(repr_deep(bricks.pair), repr_deep(pair))
            self.assertEqual(repr_deep(bricks.one), repr_deep(pair[0]))
            self.assertEqual(repr_deep(bricks.other), repr_deep(pair[1]))
            self.assertEqual(repr_deep(len(bricks)), repr_deep(len(pair[0])))

    def test_properties_can_not_be_set(self):
        bricks = Bricks(*P)
        for name in ("pair", "one", "other"):
            with self.assertRaises(AttributeError):
                setattr(bricks, name, P)
        with self.assertRaises(TypeError):
            bricks[0] = (1, 1)
        self.assertEqual(bricks, Bricks(*P))

    def test_bad_kinds(self):
        for value in NO_TUPLES + ANY_VALUES + ((), (1, 0), (1,) * 5, (MOST + 1, 1), (True, 1)):
            for one, other in ((value, (3, 3)), ((3, 3), value), (value, value)):
                if pair_error((one, other)) is not None:
                    self.check_bad(one, other)
                else:
                    self.assertEqual(Bricks(one, other).pair, (one, other))
        for wrong in NO_SIDES:
            self.check_bad((2, wrong), (3, 3))
            self.check_bad((2, 2), (wrong, 3))
        for many, other in itertools.permutations((1, 2, 3, 4), 2):
            self.check_bad((1,) * many, (1,) * other)
        self.check_bad([2, 2], (3, 3))
        self.check_bad((2, 2), [3, 3])

    def test_known_bad_kinds(self):
        for one, other, error in (((2, 2), (3,), (1, "axes")), ((2, 0), (3,), (0, "sides")),
                                  ((2, 2), (3, 0), (1, "sides")), (None, None, (0, "sides")),
                                  ((2, 2), None, (1, "sides")), ((), (1,), (0, "sides"))):
            check_error(self, BadKinds, {"error": error}, Bricks, one, other)

    def test_class_value(self):
        self.assertEqual(repr_deep(Bricks.MOST), repr_deep(4))
        self.assertEqual(Bricks.MOST, MAX_DIMS)
        self.assertEqual(Bricks(*P).MOST, 4)


class AskedTest(unittest.TestCase):
    def test_in(self):
        for many, most in ((1, 30), (2, 9), (3, 5), (4, 3)):
            rng = random.Random(many)
            for _ in range(12):
                pair = some_pair(rng, many, 4)
                bricks = Bricks(*pair)
                for box in itertools.product(range(1, most + 1), repeat=many):
                    self.assertIs(box in bricks, is_filled(pair, box), (pair, box))
                    self.assertIs(box not in bricks, not is_filled(pair, box))

    def test_in_of_any_kind(self):
        for pair in (P, ((1, 1), (1, 1)), ((1,), (1,)), ((1, 1, 1), (1, 1, 1))):
            bricks = Bricks(*pair)
            for value in NO_TUPLES + ANY_VALUES + NO_INTEGERS + (pair, [5, 6], (5, 0), (5, True), (MOST + 1, 6), bricks,
                                                                 (5, 6, 7), (6,), pair[0], (6, 6)):
                if isinstance(value, Bricks):
                    continue
                right = box_error(pair, value) is None and is_filled(pair, value)
                self.assertIs(value in bricks, right, value)
            for wrong in NO_SIDES:
                self.assertIs(put((6,) * len(bricks), 0, wrong) in bricks, False)
            for many in (1, 2, 3, 4, 5):
                self.assertIs((6,) * many in bricks, many == len(bricks))

    def test_papers(self):
        rng = random.Random(2)
        for pair in some_pairs(100, seed=3):
            bricks = Bricks(*pair)
            for _ in range(5):
                box = tuple(rng.choice((rng.randint(1, MOST), a, b, 1)) for a, b in zip(*pair))
                told = call_unchanged(self, bricks, box)
                self.assertEqual(repr_deep(told), repr_deep(paper(pair, box)))
                self.assertIs(paper_holds(pair, box, told), True)

    def test_bad_boxes(self):
        for pair in (P, ((2,), (3,)), ((1, 2, 3, 4), (2, 2, 2, 2))):
            bricks = Bricks(*pair)
            for value in NO_TUPLES + ANY_VALUES + ((), (1,) * 5, (5, 0), (5,), (5, 6, 7), (MOST + 1, 5)):
                error = box_error(pair, value)
                if error is not None:
                    check_error(self, BadBox, {"error": error}, bricks, value)
                else:
                    self.assertEqual(bricks(value), paper(pair, value))

    def test_kinds(self):
        for pair in some_pairs(30, seed=4):
            bricks = Bricks(*pair)
            self.assertEqual(repr_deep((bricks[0], bricks[1])), repr_deep(pair))

    def test_no_kinds(self):
        bricks = Bricks(*P)
        for value in NO_INTEGERS + ANY_VALUES + (-1, 2, -2, 3, 10 ** 30, -10 ** 5000):
            if not is_integer(value) or value not in (0, 1):
                check_raises(self, NoKind, {"given": value}, lambda kind: bricks[kind], value)

    def test_atoms(self):
        for pair in itertools.chain(some_pairs(100, seed=5), (P, P[::-1], (P[0], P[0]), ((2, 2), (4, 2)),
                                                              ((4, 2), (2, 2)), ((MOST,), (1,)), ((3,), (2,)))):
            bricks = Bricks(*pair)
            self.assertEqual(repr_deep(tuple(bricks)), repr_deep(atoms(pair)))
            self.assertEqual([brick for brick in bricks], list(atoms(pair)))
            # Each time anew.
            self.assertEqual(list(zip(bricks, bricks)), [(brick, brick) for brick in atoms(pair)])
            first = iter(bricks)
            self.assertEqual(next(first), atoms(pair)[0])

    def test_text(self):
        for pair in some_pairs(60, seed=6):
            text = str(Bricks(*pair))
            self.assertEqual(text, kinds_text(pair))
            self.assertIs(text.__class__, str)
            self.assertEqual(Bricks.read(text), Bricks(*pair))


class MadeOfOthersTest(unittest.TestCase):
    def test_exchanged(self):
        for pair in some_pairs(50, seed=7):
            bricks = Bricks(*pair)
            other = ~bricks
            self.assertIs(other.__class__, Bricks)
            self.assertEqual(repr_deep(other.pair), repr_deep(pair[::-1]))
            self.assertEqual((other.one, other.other), (pair[1], pair[0]))
            self.assertEqual(~other, bricks)
            self.assertEqual(bricks.pair, pair)
            self.assertEqual(list(other), list(bricks))

    def test_times(self):
        for pair in some_pairs(60, seed=8):
            bricks = Bricks(*pair)
            for number in (1, 2, 7, 1000, MOST // 3, MOST):
                expected = tuple(tuple(side * number for side in brick) for brick in pair)
                great = [axis for axis in range(len(pair[0])) if max(expected[0][axis], expected[1][axis]) > MOST]
                if great:
                    check_error(self, TooLarge, {"axis": great[0]}, lambda: bricks * number)
                else:
                    self.assertEqual(repr_deep((bricks * number).pair), repr_deep(expected))
                    self.assertIs((bricks * number).__class__, Bricks)
                self.assertEqual(bricks.pair, pair)

    def test_times_at_the_bound(self):
        for one, other, number, axis in (
            ((1, 1), (1, 1), MOST, None), ((1, 1), (1, 2), MOST, 1), ((2, 1), (1, 2), MOST, 0),
            ((1, 2), (2, 1), MOST, 0), ((1, 2), (1, 1), MOST, 1), ((MOST, 1), (1, 1), 1, None),
            ((MOST, 1), (1, 1), 2, 0),
            ((1, 1), (1, MOST), 2, 1), ((MOST // 2, 1), (1, MOST // 2), 2, None),
            ((MOST // 2, 1), (1, MOST // 2 + 1), 2, 1), ((10 ** 6, 10 ** 6), (1, 1), 10 ** 6, None),
            ((10 ** 6, 10 ** 6), (1, 10 ** 6 + 1), 10 ** 6, 1), ((1, 1, 1, 3), (1, 1, 3, 1), MOST // 2, 2),
        ):
            if axis is None:
                pair = tuple(tuple(side * number for side in brick) for brick in (one, other))
                self.assertEqual((Bricks(one, other) * number).pair, pair)
            else:
                check_error(self, TooLarge, {"axis": axis}, lambda: Bricks(one, other) * number)

    def test_bad_sides(self):
        bricks = Bricks((MOST, 2), (3, MOST))
        for value in NO_SIDES + NO_INTEGERS + ANY_VALUES:
            if not (is_integer(value) and 1 <= value <= MOST):
                check_raises(self, BadSide, {"given": value}, lambda number: bricks * number, value)
        self.assertEqual(bricks.pair, ((MOST, 2), (3, MOST)))

    def test_within(self):
        rng = random.Random(9)
        found = set()
        for _ in range(200):
            many = rng.randint(1, 4)
            one, other = some_pair(rng, many, 3), some_pair(rng, many, 2)
            told = Bricks(*one).within(Bricks(*other))
            self.assertIs(told, within(one, other))
            found.add(told)
        self.assertEqual(found, {True, False})
        for many, other in itertools.permutations((1, 2, 3, 4), 2):
            bricks = Bricks((1,) * many, (1,) * many)
            check_raises(self, UnlikeAxes, {}, bricks.within, Bricks((1,) * other, (1,) * other))


class ReadTest(unittest.TestCase):
    def test_right(self):
        for text, pair in (("2x2 3x3", P), ("1 1", ((1,), (1,))), ("1x2x3x4 5x6x7x8", ((1, 2, 3, 4), (5, 6, 7, 8))),
                           ("1000000000000 1", ((MOST,), (1,)))):
            bricks = call_unchanged_text(self, text)
            self.assertIs(bricks.__class__, Bricks)
            self.assertEqual(repr_deep(bricks.pair), repr_deep(pair))
            self.assertEqual(repr_deep(Bricks(*P).read(text).pair), repr_deep(pair))

    def test_bad_texts(self):
        for value in ANY_VALUES + NO_INTEGERS + ("", "2x2 3", "2x2 3 1", "2x2  3x3", " 2x2 3x3", "2x2 3x3 ", "02 3",
                                                 "0 1", "1000000000001 1", "2x2,3x3", "2x2 3x3\n", "2X2 3x3"):
            if not isinstance(value, str) or value not in ("5x6", "2x2 3x3", "1", "0"):
                self.check_bad_text(value)

    def check_bad_text(self, value):
        expected = raised_by(self, BadText, parse_kinds, value)
        check_error(self, BadText, {"place": expected.place}, Bricks.read, value)

    def test_not_two_kinds(self):
        for text in ("2x2", "1", "2x2 3x3 4x4", "1 2 3", "1 2 3 4", "1x2x3x4", "2x2 2x2 2x2 2x2"):
            check_error(self, BadKinds, {"error": (None, "pair")}, Bricks.read, text)

    def test_known_places(self):
        for text, place in (("2x2 3 1", 5), ("2x2 3x3 4x4 5x5 6x6", 15), ("1 2 3 4 5", 7), ("x", 0), (None, None),
                            ("2x2 3x3 4", 9)):
            check_error(self, BadText, {"place": place}, Bricks.read, text)


def call_unchanged_text(test, text):
    """What Bricks.read tells of a text, the same each time."""
    bricks = Bricks.read(text)
    test.assertEqual(Bricks.read(text), bricks)
    return bricks


class EqualTest(unittest.TestCase):
    def check(self, one, other, right):
        self.assertIs(one == other, right)
        self.assertIs(one != other, not right)
        self.assertIs(other == one, right)
        self.assertIs(other != one, not right)

    def test_by_the_pair_alone(self):
        pairs = (P, P[::-1], ((2, 2), (4, 2)), ((2, 2), (2, 2)), ((2,), (3,)), ((2, 2, 1), (3, 3, 1)), ((2, 2), (3, 4)),
                 ((2, 3), (3, 3)))
        for one, other in itertools.product(pairs, repeat=2):
            self.check(Bricks(*one), Bricks(*other), one == other)
        self.check(Bricks.read("2x2 3x3"), Bricks(*P), True)
        self.check(Bricks((1, 1), (2, 2)) * 3, Bricks((3, 3), (6, 6)), True)
        # Alike for all boxes, yet not equal.
        self.check(Bricks((2, 2), (4, 2)), Bricks((2, 2), (2, 2)), False)

    def test_values_of_any_kind(self):
        bricks = Bricks(*P)
        for value in ANY_VALUES + NO_INTEGERS + (P, list(P), "2x2 3x3", object(), Bricks, 1.5, {1}, b"x", atoms(P)):
            self.check(bricks, value, False)
        self.check(bricks, bricks, True)

    def test_no_call_changes_it(self):
        bricks = Bricks(*P)
        before = (bricks.pair, list(bricks), str(bricks), len(bricks))
        for call in (lambda: bricks((5, 6)), lambda: bricks * 2, lambda: ~bricks, lambda: (5, 6) in bricks,
                     lambda: bricks[0], lambda: bricks.within(bricks), lambda: list(bricks), lambda: bricks == 1,
                     lambda: Bricks.read("1 2")):
            call()
            self.assertEqual((bricks.pair, list(bricks), str(bricks), len(bricks)), before)
        for call in (lambda: bricks((5,)), lambda: bricks * 0, lambda: bricks[2], lambda: bricks * MOST):
            with self.assertRaises(ValueError):
                call()
            self.assertEqual((bricks.pair, list(bricks), str(bricks), len(bricks)), before)


if __name__ == "__main__":
    unittest.main()
