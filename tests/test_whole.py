"""A2, A3: what goes together over the whole package, and that calls leave nothing behind."""

import copy
import importlib
import itertools
import random
import unittest

from tests.states import some_state
from tests.test_interface import INTERFACE
from tests.values import MOST, call_quick, put, repr_deep, small_boxes, some_pair
from twobricks.counting import count_fillings, filling_at, filling_number
from twobricks.errors import BadPaper
from twobricks.fillings import fill, filling_error
from twobricks.pairs import alike, atoms, mates, within
from twobricks.papers import (
    bar_papers, count_cuts, cut_at, cut_number, is_filled, most_of, needed, paper, paper_holds,
)
from twobricks.plans import box_of, bricks_of, chop, chopped, fewest_bricks, filling_of, plan_error, plan_for, plan_of
from twobricks.signed import is_signed, signed_fill, signed_holds, signed_paper, signed_paper_holds
from twobricks.sizes import along, box_at, box_number, count_along, count_boxes, next_side, side_at, side_number
from twobricks.weights import bars, find_weights, weights_by
from twobricks.yards import FullYard, Yard

P = ((2, 2), (3, 3))
MIXED = ((0, (0, 0)), (0, (0, 2)), (0, (0, 4)), (1, (2, 0)), (1, (2, 3)))
WEIGHTS = (((0, 0), -1), ((0, 2), 1))
LENGTHS = (((1, 2), (4, 1)), ((3, 4), (6, 1)))

# What may be passed by the name of each argument: right values, all for the same pair and box where there is one.
ARGUMENTS = {
    "pair": (P, ((2, 1), (1, 3))), "kinds": (P,), "box": ((5, 6), (5, 5), (1, 6)), "sides": ((5, 6),), "axis": (0, 1),
    "filling": (MIXED,), "placed": ((0, (1, 4)),), "cell": ((0, 1),), "one": (P, ((2, 2), (4, 4))),
    "weights": (WEIGHTS,),
    "plan": (((0,), (1, 0, 0), (1, 1, 0), (1,), (1, 3, 3), (0, 2, 4)),), "blocks": (((0, (0, 0), (2, 3), 1),),),
    "most": ((6, 7),), "least": (1, 7), "side": (5, 4), "number": (0, 3), "at": (2, 3), "kind": (0, 1),
    "other_box": ((5, 6),), "other": (P,), "brick": ((2, 2),),
}

# Values with lists and dicts in them, as well as what is right for one of the functions.
VALUES = (
    None, [P, {"a": [1, (2, [3])]}], {"x": [(5, 6)], (1, 2): {"y": []}}, ("cut", 0, 0, [2]), ("gap", 0, {"x": 2}, 1),
    ((0, [0, 0]), {0: [1]}), (((0, 0), [1]),), ((0, (0, 0), [2, 3], 1),), ((0,), [0, 0, 0]), "2x2 3x3", MIXED, WEIGHTS,
    ("cut", 0, 0, 2), ("gap", 0, 2, 1), (0, 0, 2), (5, 6), P,
)

# Functions whose arguments of a name are of another sort than those of the others.
SPECIAL = {
    ("counting", "box"): ((4, 3), (2, 2)), ("lengths", "kinds"): (LENGTHS,), ("lengths", "pair"): (LENGTHS,),
    ("lengths", "box"): (((5, 4), (12, 1)),), ("weights", "one"): (WEIGHTS,), ("weights", "other"): (WEIGHTS,),
    ("fillings", "other"): (MIXED,), ("fillings", "box"): ((5, 6),), ("sizes", "most"): ((6, 7),),
    ("weights", "number"): (0, -3),
}


def arguments_for(module, function, name):
    """What may be passed to a function by the name."""
    if name == "value":
        return VALUES
    if (module, function, name) == ("sizes", "count_along", "most"):
        return (0, 10)
    if (module, name) in SPECIAL:
        return SPECIAL[module, name]
    if function in ("plan_of", "filling_of", "counts_in"):
        return ARGUMENTS[name][:1]
    return ARGUMENTS[name]


def every_call():
    """Calls of all functions of the package: (function, arguments)."""
    for module, signatures in INTERFACE.items():
        for signature in signatures:
            name, _, names = signature.rstrip(")").partition("(")
            function = getattr(importlib.import_module("twobricks." + module), name)
            choices = [arguments_for(module, name, argument) for argument in names.split(", ")]
            for args in itertools.product(*choices):
                yield function, args


def result_of(function, args):
    """What the call returns or which error it raises, in a form that can be compared."""
    try:
        return repr_deep(function(*args))
    except ValueError as error:
        return error.__class__.__name__, repr_deep(vars(error))


def small_cases(count, seed):
    rng = random.Random(seed)
    for many, longest in ((1, 7), (2, 5), (3, 4), (4, 3)):
        boxes = small_boxes(many, 20)
        for _ in range(count):
            yield some_pair(rng, many, longest), rng.choice(boxes)


class CallsTest(unittest.TestCase):
    def test_all_functions_are_called(self):
        called = {function.__name__ for function, _ in every_call()}
        names = {signature.partition("(")[0] for signatures in INTERFACE.values() for signature in signatures}
        self.assertEqual(called, names)

    def test_the_same_behind_other_calls(self):
        calls = list(every_call())
        results = [result_of(*call) for call in calls]
        rng = random.Random(1)
        for at in rng.sample(range(len(calls)), len(calls)):
            function, args = calls[at]
            # With what is equal but made anew, too.
            self.assertEqual(result_of(function, copy.deepcopy(args)), results[at], (function.__name__, args))

    def test_nothing_is_changed(self):
        for function, args in every_call():
            before = copy.deepcopy(args)
            result_of(function, args)
            self.assertEqual(repr_deep(args), repr_deep(before), function.__name__)

    def test_lists_are_never_returned(self):
        for function, args in every_call():
            if not function.__name__.endswith("_error"):
                self.check_tuples(result_of(function, args))

    def check_tuples(self, result):
        """Fails if a list or a dict is in a result in the form of repr_deep, unless an error tells what was passed."""
        if isinstance(result, tuple) and result and result[0] in ("list", "dict"):
            self.fail(result)
        if isinstance(result, tuple) and result and result[0] == "tuple":
            for item in result[1]:
                self.check_tuples(item)


class SmallBoxesTest(unittest.TestCase):
    def test_exactly_one_is_so(self):
        found = set()
        for pair, box in small_cases(150, seed=2):
            filled = is_filled(pair, box)
            found.add(filled)
            self.assertEqual(paper(pair, box)[0] == "cut", filled)
            self.assertIs(fill(pair, box) is not None, filled)
            self.assertIs(plan_for(pair, box) is not None, filled)
            self.assertIs(chop(pair, box) is not None, filled)
            self.assertIs(chopped(pair, box), filled)
            self.assertIs(fewest_bricks(pair, box) is not None, filled)
            self.assertIs(find_weights(pair, box) is None, filled)
            self.assertEqual(count_cuts(pair, box) > 0, filled)
            self.assertEqual(bar_papers(pair, box) == (), filled)
            self.assertEqual(count_fillings(pair, box) > 0, filled)
            self.assertIs(needed(pair, box) is not None, filled)
            self.assertIs(most_of(pair, box, 0) is not None, filled)
            self.check_others(pair, box, filled)
        self.assertEqual(found, {True, False})

    def check_others(self, pair, box, filled):
        """What other functions tell of a box that is filled, or is not."""
        for axis, side in enumerate(box):
            self.assertEqual(side_number(pair, box, axis, side) is not None, filled)
            self.assertEqual(next_side(pair, box, axis, side) == side, filled)
        self.assertEqual(box_number(pair, box, box) is not None, filled)
        self.assertEqual(pair[1] in mates(pair[0], box), filled and all(a <= b for a, b in zip(pair[1], box)))
        self.assertIs(within((box, box), pair), filled)
        self.assertIs(bool(Yard(pair, box)), filled)
        self.assertTrue(not filled or is_signed(pair, box))

    def test_papers_and_what_they_make(self):
        for pair, box in small_cases(60, seed=3):
            for told in bar_papers(pair, box):
                self.assertIs(bars(pair, box, weights_by(pair, box, told)), True)
            for number in range(count_cuts(pair, box)):
                cut = cut_at(pair, box, number)
                self.assertEqual(cut_number(pair, box, cut), number)
                self.assertIs(paper_holds(pair, box, ("cut",) + cut), True)
                self.assertRaises(BadPaper, weights_by, pair, box, ("cut",) + cut)

    def test_what_is_told_is_accepted(self):
        for pair, box in small_cases(60, seed=4):
            self.assertIs(paper_holds(pair, box, paper(pair, box)), True)
            self.assertIs(signed_paper_holds(pair, box, signed_paper(pair, box)), True)
            if is_filled(pair, box):
                filling = fill(pair, box)
                self.assertIsNone(filling_error(pair, box, filling))
                self.assertIs(signed_holds(pair, box, signed_fill(pair, box)), True)
                for plan in (plan_for(pair, box), chop(pair, box), plan_of(pair, box, filling)):
                    self.assertIsNone(plan_error(pair, plan))
                    self.assertEqual(box_of(pair, plan), box)
                    self.assertIsNone(filling_error(pair, box, filling_of(pair, plan)))
                self.assertLessEqual(fewest_bricks(pair, box)[0], sum(bricks_of(pair, plan_for(pair, box))))
                # Bricks as blocks, each of them once.
                blocks = tuple(placed + ((1,) * len(box), 1) for placed in filling)
                self.assertIs(signed_holds(pair, box, blocks), True)
            else:
                self.assertIs(bars(pair, box, find_weights(pair, box)), True)

    def test_numbers_without_gaps(self):
        for pair, box in small_cases(12, seed=5):
            many = count_fillings(pair, box)
            for number in range(min(many, 12)):
                self.assertEqual(filling_number(pair, box, filling_at(pair, box, number)), number)
            boxes = [box_at(pair, box, number) for number in range(min(count_boxes(pair, box), 60))]
            self.assertEqual(boxes, sorted(set(boxes)))
            self.assertEqual([box_number(pair, box, one) for one in boxes], list(range(len(boxes))))
            for axis in range(len(box)):
                if along(pair, box, axis) != ("none",):
                    sides = [side_at(pair, box, axis, number) for number in range(12)]
                    self.assertEqual(sides, sorted(set(sides)))
                    self.assertEqual([side_number(pair, box, axis, side) for side in sides], list(range(12)))
                    self.assertEqual([count_along(pair, box, axis, side) for side in sides], list(range(1, 13)))

    def test_alike_pairs(self):
        for pair, box in small_cases(60, seed=6):
            one = atoms(pair)
            other = (one[0], one[-1])
            self.assertIs(alike(pair, other), True)
            self.assertEqual(is_filled(other, box), is_filled(pair, box))
            for axis in range(len(box)):
                self.assertEqual(along(other, box, axis), along(pair, box, axis))


class GreatBoxesTest(unittest.TestCase):
    def test_exactly_one_is_so(self):
        rng = random.Random(7)
        found = set()
        for _ in range(300):
            pair, box = some_state(rng)
            by = rng.randint(1, MOST // 100)
            axis = rng.randrange(len(box))
            pair = tuple(put(brick, axis, brick[axis] * by) for brick in pair)
            box = put(box, axis, box[axis] * by + rng.choice((0, 0, 0, 1)))
            filled = call_quick(self, is_filled, pair, box)
            found.add(filled)
            self.assertEqual(call_quick(self, paper, pair, box)[0] == "cut", filled)
            self.assertIs(call_quick(self, plan_for, pair, box) is not None, filled)
            self.assertEqual(count_cuts(pair, box) > 0, filled)
            self.assertIs(side_number(pair, box, axis, box[axis]) is not None, filled)
            self.assertIs(box_number(pair, box, box) is not None, filled)
            self.assertTrue(not filled or is_signed(pair, box))
            self.assertTrue(not filled or box_of(pair, plan_for(pair, box)) == box)
            self.assertTrue(not filled or FullYard(pair, box).cut == FullYard(pair, box).copy().cut)
        self.assertEqual(found, {True, False})


if __name__ == "__main__":
    unittest.main()
