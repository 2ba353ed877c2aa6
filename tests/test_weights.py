"""A2, A3, D1: weights, what they bar, and thick fillings."""

import itertools
import math
import random
import unittest

from tests.values import (
    ANY_VALUES, MOST, NO_INTEGERS, NO_TUPLES, bent, brick_cells, call_quick, call_unchanged, cells_of, check_names,
    check_raises, is_integer, is_plainly_filled, plain_fillings, plain_places, put, random_filling, repr_deep,
    small_boxes,
)
from twobricks.errors import BadPaper
from twobricks.fillings import fill
from twobricks.papers import bar_papers, count_cuts, cut_at, is_filled, paper, paper_holds
from twobricks.weights import (
    added, bars, find_weights, lightest, sum_in, thickness, times, total, weights_by, weights_error,
)

PAIR = ((2, 1), (1, 3))
BARRING = (((0, 0), -1), ((0, 2), 1), ((0, 3), -1), ((1, 0), 1), ((1, 2), -1), ((1, 3), 1), ((2, 0), -1),
           ((2, 2), 1), ((2, 3), -1))
GREAT = int("1234567890" * 4)
GREAT_BOXES = ((400,), (399,), (20, 20), (19, 21), (1, 400), (57, 7), (8, 5, 10), (7, 7, 8), (4, 5, 4, 5), (3, 5, 5, 5))


def random_weights(box, rng, numbers=(-3, -2, -1, 1, 2, 3, GREAT, -GREAT)):
    cells = cells_of(box)
    chosen = rng.sample(cells, rng.randint(0, min(len(cells), 12)))
    return tuple(sorted((cell, rng.choice(numbers)) for cell in chosen))


def random_case(rng, most=30):
    """Kinds, a box and weights for it, of any dimension."""
    many = rng.randint(1, 4)
    box = rng.choice(small_boxes(many, most))
    kinds = tuple(tuple(rng.randint(1, rng.choice((1, 2, 3, side + 1))) for side in box)
                  for _ in range(rng.randint(1, 4)))
    return kinds, box, random_weights(box, rng)


def is_weight(box, value):
    """Whether value is an item that weights may have, told apart by what it looks like."""
    cells = {repr_deep(cell) for cell in cells_of(box)}
    return (value.__class__ is tuple and len(value) == 2 and repr_deep(value[0]) in cells
            and is_integer(value[1]) and value[1] != 0)


def plain_error(box, value):
    """What weights_error must tell."""
    if value.__class__ is not tuple:
        return (None, "weights")
    for index, item in enumerate(value):
        if not is_weight(box, item):
            return (index, "item")
        if index and not value[index - 1][0] < item[0]:
            return (index, "order")
    return None


def plain_sum(kinds, weights, placed):
    numbers = dict(weights)
    return sum(numbers.get(cell, 0) for cell in brick_cells(kinds, placed))


def plain_bars(kinds, box, weights):
    """Whether weights that are right bar the box."""
    return (sum(number for _, number in weights) < 0
            and all(plain_sum(kinds, weights, placed) >= 0 for placed in plain_places(kinds, box)))


def plain_sign(side, number):
    return 1 if number % side == 0 else -1 if (number + 1) % side == 0 else 0


def plain_sides_weights(pair, box, i, j):
    """The weights of ("sides", i, j), cell by cell."""
    found = []
    for cell in cells_of(box):
        if all(number == 0 for axis, number in enumerate(cell) if axis not in (i, j)):
            number = -plain_sign(pair[0][i], cell[i]) * plain_sign(pair[1][j], cell[j])
            if number:
                found.append((cell, number))
    return tuple(found)


def plain_line_weights(pair, box, axis):
    """The weights of ("step", axis) and ("gap", axis, x, y), cell by cell."""
    one, other, side = pair[0][axis], pair[1][axis], box[axis]
    sums = {m * one + n * other for m in range(side + 1) for n in range(side + 1)}
    low = {k for k in range(1, side + 1) if side - k in sums}
    found = []
    for cell in cells_of(box):
        if all(number == 0 for k, number in enumerate(cell) if k != axis):
            k = cell[axis]
            number = (k in low) - (k + 1 in low)
            if number:
                found.append((cell, number))
    return tuple(found)


def plain_thickness(kinds, box, value):
    """What thickness must tell of a tuple of triples that is ascending and whose bricks lie in the box."""
    layers = dict.fromkeys(cells_of(box), 0)
    for kind, corner, number in value:
        for cell in brick_cells(kinds, (kind, corner)):
            layers[cell] += number
    heights = set(layers.values())
    return heights.pop() if len(heights) == 1 and 0 not in heights else None


def is_thick_form(kinds, box, value):
    """Whether value is an ascending tuple of triples, each brick in the box and there once."""
    bricks = {repr_deep(placed) for placed in plain_places(kinds, box)}
    if value.__class__ is not tuple:
        return False
    for item in value:
        if item.__class__ is not tuple or len(item) != 3 or repr_deep(item[:2]) not in bricks:
            return False
        if not is_integer(item[2]) or item[2] < 1:
            return False
    placed = [item[:2] for item in value]
    return placed == sorted(set(placed))


def taken_together(fillings):
    """The thick filling of fillings with their numbers, as a tuple of triples."""
    numbers = {}
    for filling, number in fillings:
        for placed in filling:
            numbers[placed] = numbers.get(placed, 0) + number
    return tuple(sorted(placed + (number,) for placed, number in numbers.items()))


class DocumentTest(unittest.TestCase):
    def test_weights(self):
        weights = (((0, 0), -1), ((0, 2), 1), ((1, 0), 1), ((1, 2), -1))
        self.assertEqual(
            [weights_error((3, 5), weights), sum_in(((2, 1), (1, 3)), weights, (0, (0, 2))), total(weights),
             lightest(((1, 1), (2, 2)), (3, 5), weights), bars(((2, 1), (1, 3)), (3, 5), weights),
             weights_error((3, 5), weights[::-1]), weights_error((3, 5), (((3, 0), 1),))],
            [None, 0, 0, (0, (0, 0)), False, (1, 'order'), (0, 'item')])
        self.assertIs(
            bars(((2, 1), (1, 3)), (3, 5),
                 (((0, 0), -1), ((0, 2), 1), ((0, 3), -1), ((1, 0), 1), ((1, 2), -1), ((1, 3), 1), ((2, 0), -1),
                  ((2, 2), 1), ((2, 3), -1))),
            True)

    def test_added(self):
        self.assertEqual(
            [added((((0,), 2), ((1,), -1)), (((1,), 1), ((3,), 5))), times((((0,), 2),), -3), times((((0,), 2),), 0)],
            [(((0,), 2), ((3,), 5)), (((0,), -6),), ()])

    def test_found(self):
        self.assertEqual(
            [weights_by(((3,), (5,)), (7,), ("gap", 0, 4, 1)),
             weights_by(((2, 1), (1, 2)), (1, 3), ("sides", 0, 1)), find_weights(((2,), (5,)), (9,))],
            [(((0,), -1), ((2,), 1), ((3,), -1), ((4,), 1), ((6,), -1)),
             (((0, 0), -1), ((0, 1), 1), ((0, 2), -1)), None])
        with self.assertRaises(BadPaper) as held:
            weights_by(((2,), (5,)), (9,), ("gap", 0, 2, -1))
        self.assertEqual(held.exception.given, ('gap', 0, 2, -1))

    def test_thickness(self):
        self.assertEqual(
            [thickness(((1,), (2,)), (2,), ((0, (0,), 1), (0, (1,), 1), (1, (0,), 3))),
             thickness(((1,), (2,)), (2,), ((0, (0,), 1),)), thickness(((1,), (2,)), (2,), ())],
            [4, None, None])

    def test_by_name(self):
        check_names(self, weights_error, box=(3, 5), value=BARRING)
        check_names(self, weights_error, box=(3, 3), value=BARRING)
        check_names(self, sum_in, kinds=PAIR, weights=BARRING, placed=(1, (0, 2)))
        check_names(self, total, weights=BARRING)
        check_names(self, lightest, kinds=PAIR, box=(3, 5), weights=BARRING)
        check_names(self, bars, kinds=PAIR, box=(3, 5), value=BARRING)
        check_names(self, added, one=BARRING, other=(((0, 0), 3),))
        check_names(self, times, weights=BARRING, number=4)
        check_names(self, find_weights, pair=PAIR, box=(3, 5))
        check_names(self, weights_by, pair=((3,), (5,)), box=(7,), value=("gap", 0, 4, 1))
        check_names(self, thickness, kinds=((1,), (2,)), box=(1,), value=((0, (0,), 3),))


class WeightsErrorTest(unittest.TestCase):
    def check(self, box, value):
        told = call_unchanged(self, weights_error, box, value)
        self.assertEqual(repr_deep(told), repr_deep(plain_error(box, value)), (box, value))
        if told is not None:
            self.assertIs(call_unchanged(self, bars, ((1,) * len(box),), box, value), False)

    def test_right(self):
        rng = random.Random(1)
        for _ in range(300):
            _, box, weights = random_case(rng)
            self.assertIsNone(call_unchanged(self, weights_error, box, weights))
        for box in GREAT_BOXES:
            weights = tuple((cell, GREAT) for cell in cells_of(box))
            self.assertIsNone(call_quick(self, weights_error, box, weights))
        self.assertIsNone(weights_error((1, 1), ()))
        self.assertIsNone(weights_error((1,), (((0,), -10 ** 5000),)))

    def test_one_part_otherwise(self):
        for box, weights in (((2,), (((0,), 1), ((1,), -1))), ((2, 1), (((0, 0), 1), ((1, 0), GREAT))),
                             ((1, 2, 2), (((0, 0, 1), -2),)), ((1, 2, 1, 2), (((0, 0, 0, 1), 1), ((0, 1, 0, 0), 1)))):
            for value in bent(weights):
                self.check(box, value)

    def test_two_parts_otherwise(self):
        rng = random.Random(2)
        weights = (((0, 0), 1), ((0, 1), -1), ((1, 0), 2))
        for value in rng.sample(list(bent(weights)), 50):
            if isinstance(value, tuple):
                for other in rng.sample(list(bent(value)), 40):
                    self.check((2, 2), other)

    def test_each_order(self):
        items = [((0, 0), 1), ((0, 1), -1), ((1, 0), 1), ((1, 0), 2), ((1, 1), -GREAT)]
        for length in range(4):
            for value in itertools.product(items, repeat=length):
                self.check((2, 2), value)

    def test_the_first_one_of_several(self):
        low, high = ((0, 0), 1), ((1, 1), 1)
        for value, error in (
            ((high, low, None), (1, "order")), ((low, None, low), (1, "item")), ((high, ((0, 0), 0)), (1, "item")),
            ((low, low), (1, "order")), ((low, ((0, 0), 2)), (1, "order")), ((None, None), (0, "item")),
            ([None], (None, "weights")), ([low, high], (None, "weights")), ((high, high, low), (1, "order")),
            ((low, high, [((1, 1), 2)]), (2, "item")), ((low, ((1, 1), True)), (1, "item")),
            ((low, ((True, 1), 1)), (1, "item")), ((low, ((1, 2), 1)), (1, "item")), ((low, ((1, -1), 1)), (1, "item")),
            ((low, ((1,), 1)), (1, "item")), ((low, ([1, 1], 1)), (1, "item")), ((low, [(1, 1), 1]), (1, "item")),
            ((low, ((1, 1), 1, 1)), (1, "item")), ((low, ((1, 1),)), (1, "item")), ((low, (1, 1)), (1, "item")),
        ):
            self.assertEqual(weights_error((2, 2), value), error, value)
            self.check((2, 2), value)

    def test_values_of_any_kind(self):
        for value in ANY_VALUES + NO_INTEGERS:
            for other in (value, (value,), (((0, 0), 1), value), (((0, 0), value),), ((value, 1),), (((0, value), 1),)):
                self.check((3, 5), other)
        for value in NO_TUPLES:
            self.assertEqual(weights_error((3, 5), value), (None, "weights"))


class SumsTest(unittest.TestCase):
    def test_of_bricks_in_the_box(self):
        rng = random.Random(3)
        for _ in range(300):
            kinds, box, weights = random_case(rng)
            self.assertEqual(repr_deep(call_unchanged(self, total, weights)),
                             repr_deep(sum(number for _, number in weights)))
            sums = [(plain_sum(kinds, weights, placed), placed) for placed in plain_places(kinds, box)]
            for weight, placed in rng.sample(sums, min(len(sums), 10)):
                told = call_unchanged(self, sum_in, kinds, weights, placed)
                self.assertEqual(repr_deep(told), repr_deep(weight))
            least = min(sums)[1] if sums else None
            self.assertEqual(repr_deep(call_unchanged(self, lightest, kinds, box, weights)), repr_deep(least))

    def test_of_bricks_anywhere(self):
        rng = random.Random(4)
        for _ in range(200):
            kinds, box, weights = random_case(rng)
            for _ in range(5):
                kind = rng.randrange(len(kinds))
                corner = tuple(rng.randint(0, side + 2) for side in box)
                told = call_unchanged(self, sum_in, kinds, weights, (kind, corner))
                self.assertEqual(told, plain_sum(kinds, weights, (kind, corner)))
            self.assertEqual(sum_in(kinds, weights, (0, (MOST,) * len(box))), 0)
            great = ((MOST,) * len(box), (1,) * len(box))
            self.assertEqual(call_quick(self, sum_in, great, weights, (0, (0,) * len(box))), total(weights))

    def test_across_an_end(self):
        weights = (((0, 0), 1), ((0, 4), 10), ((2, 0), 100), ((2, 4), 1000))
        for corner, weight in (((0, 0), 1), ((0, 3), 10), ((0, 4), 10), ((1, 4), 1000), ((2, 4), 1000), ((3, 4), 0),
                               ((2, 5), 0), ((2, 0), 100), ((1, 0), 100), ((1, 3), 1000), ((0, MOST), 0)):
            self.assertEqual(sum_in(((3, 5), (2, 2)), weights, (1, corner)), weight, corner)
        self.assertEqual(sum_in(((3, 5), (2, 2)), weights, (0, (0, 0))), 1111)
        self.assertEqual(sum_in(((3, 5), (2, 2)), weights, (0, (0, 1))), 1010)

    def test_total(self):
        self.assertEqual(total(()), 0)
        self.assertEqual(total((((0,), GREAT), ((1,), -1), ((7,), -GREAT))), -1)

    def test_lightest_of_several(self):
        for kinds, box, weights, expected in (
            (((1,), (1,)), (3,), (), (0, (0,))),
            (((2,), (1,)), (3,), (((1,), -1),), (0, (0,))),
            (((1,), (2,)), (3,), (((1,), -1),), (0, (1,))),
            (((1,), (2,)), (3,), (((0,), 1), ((1,), 1), ((2,), 1)), (0, (0,))),
            (((1,), (2,)), (3,), (((0,), -1), ((1,), -1), ((2,), -1)), (1, (0,))),
            (((2, 2), (1, 1)), (1, 5), (((0, 4), -GREAT),), (1, (0, 4))),
            (((2, 2), (1, 6)), (1, 5), (((0, 4), -1),), None),
            (((MOST,),) * 4, (400,), (((0,), -1),), None),
        ):
            self.assertEqual(call_unchanged(self, lightest, kinds, box, weights), expected)

    def test_great_boxes(self):
        for box in GREAT_BOXES:
            weights = tuple((cell, (-1) ** sum(cell) * GREAT) for cell in cells_of(box))
            halves = tuple((side + 1) // 2 for side in box)
            for kinds in (((1,) * len(box),) * 4, (halves,) * 4):
                sums = [(plain_sum(kinds, weights, placed), placed) for placed in plain_places(kinds, box)]
                self.assertEqual(call_quick(self, lightest, kinds, box, weights), min(sums)[1])
                self.assertIs(call_quick(self, bars, kinds, box, weights), plain_bars(kinds, box, weights))


class BarsTest(unittest.TestCase):
    def test_weights(self):
        rng = random.Random(5)
        for _ in range(600):
            kinds, box, weights = random_case(rng, most=12)
            self.assertIs(call_unchanged(self, bars, kinds, box, weights), plain_bars(kinds, box, weights))

    def test_that_bar(self):
        rng = random.Random(6)
        barred = 0
        for _ in range(600):
            many = rng.randint(1, 4)
            box = rng.choice(small_boxes(many, 24))
            pair = tuple(tuple(rng.randint(1, 4) for _ in box) for _ in range(2))
            weights = find_weights(pair, box)
            if weights is None:
                continue
            barred += 1
            self.assertIs(call_unchanged(self, bars, pair, box, weights), True)
            self.check_changed(pair, box, weights, rng)
        self.assertGreater(barred, 200)

    def check_changed(self, pair, box, weights, rng):
        for kinds in ((pair[0],), (pair[1], pair[0]), pair + pair, pair + ((1,) * len(box),)):
            self.assertIs(bars(kinds, box, weights), plain_bars(kinds, box, weights))
        self.assertIs(bars(pair, box, times(weights, GREAT)), True)
        for number in (-1, 0):
            self.assertIs(bars(pair, box, times(weights, number)), False)
        for _ in range(6):
            other = added(weights, ((rng.choice(cells_of(box)), rng.choice((-1, 1, 2))),))
            self.assertIs(bars(pair, box, other), plain_bars(pair, box, other))
        self.assertIs(bars(pair, box, list(weights)), False)
        self.assertIs(bars(pair, box, weights + weights[-1:]), False)
        self.assertIs(bars(pair, box, weights + ((box, 1),)), False)

    def test_of_a_total_of_0(self):
        self.assertIs(bars(((2,), (4,)), (3,), (((0,), -1), ((1,), 1))), False)
        self.assertIs(bars(((2,), (4,)), (3,), (((0,), -1), ((1,), 1), ((2,), -1))), True)
        self.assertIs(bars(((2,), (4,)), (1,), (((0,), -1),)), True)
        self.assertIs(bars(((1,), (4,)), (1,), (((0,), -1),)), False)
        self.assertIs(bars(((2,), (4,)), (3,), ()), False)

    def test_what_is_filled_is_not_barred(self):
        rng = random.Random(7)
        for _ in range(300):
            kinds, box, weights = random_case(rng, most=12)
            if is_plainly_filled(kinds, box):
                self.assertIs(bars(kinds, box, weights), False)

    def test_values_of_any_kind(self):
        for value in ANY_VALUES + NO_INTEGERS:
            if value != ():
                self.assertIs(call_unchanged(self, bars, PAIR, (3, 5), value), False)
                self.assertIs(call_unchanged(self, bars, PAIR, (3, 5), (value,)), False)
                self.assertIs(call_unchanged(self, bars, PAIR, (3, 5), BARRING + (value,)), False)
        for value in bent(BARRING[:2]):
            expected = plain_error((3, 5), value) is None and plain_bars(PAIR, (3, 5), value)
            self.assertIs(call_unchanged(self, bars, PAIR, (3, 5), value), expected)


class AddedTest(unittest.TestCase):
    def test_added(self):
        rng = random.Random(8)
        for _ in range(500):
            box = rng.choice(small_boxes(rng.randint(1, 4), 15))
            one, other = random_weights(box, rng), random_weights(box, rng)
            numbers = {cell: dict(one).get(cell, 0) + dict(other).get(cell, 0) for cell in cells_of(box)}
            expected = tuple((cell, number) for cell, number in numbers.items() if number)
            self.assertEqual(repr_deep(call_unchanged(self, added, one, other)), repr_deep(expected))
            self.assertEqual(added(other, one), expected)
            self.assertEqual(added(one, times(one, -1)), ())
            self.assertEqual(added(one, ()), one)
            self.assertEqual(added(one, one), times(one, 2))

    def test_times(self):
        rng = random.Random(9)
        for _ in range(300):
            weights = random_weights(rng.choice(small_boxes(rng.randint(1, 4), 15)), rng)
            for number in (0, 1, -1, 2, -7, GREAT, -GREAT):
                expected = tuple((cell, weight * number) for cell, weight in weights if number)
                self.assertEqual(repr_deep(call_unchanged(self, times, weights, number)), repr_deep(expected))

    def test_great_numbers(self):
        one = (((0,), GREAT), ((1,), -GREAT))
        self.assertEqual(added(one, (((0,), -GREAT), ((1,), GREAT - 1))), (((1,), -1),))
        self.assertEqual(times(one, GREAT), (((0,), GREAT ** 2), ((1,), -GREAT ** 2)))
        self.assertEqual(times((), GREAT), ())


class FindWeightsTest(unittest.TestCase):
    def check(self, pair, box):
        told = call_unchanged(self, find_weights, pair, box)
        self.assertEqual(told is None, is_filled(pair, box), (pair, box))
        self.assertEqual(told is None, fill(pair, box) is not None)
        self.assertEqual(told is None, paper(pair, box)[0] == "cut")
        if told is not None:
            self.assertIsNone(weights_error(box, told))
            self.assertIs(bars(pair, box, told), True, (pair, box))
            self.assertTrue(plain_bars(pair, box, told), (pair, box))

    def test_small_boxes(self):
        rng = random.Random(10)
        for many, most, boxes in ((1, 7, 16), (2, 4, 40), (3, 3, 60), (4, 3, 60)):
            bricks = list(itertools.product(range(1, most + 1), repeat=many))
            every = small_boxes(many, 16)
            for box in every if len(every) <= boxes else rng.sample(every, boxes):
                for _ in range(30):
                    self.check((rng.choice(bricks), rng.choice(bricks)), box)
                brick = rng.choice(bricks)
                self.check((brick, brick), box)
                self.check((brick, (MOST,) * many), box)

    def test_great_boxes(self):
        rng = random.Random(11)
        for box in GREAT_BOXES:
            for _ in range(6):
                pair = tuple(tuple(rng.randint(1, min(side + 1, 9)) for side in box) for _ in range(2))
                call_quick(self, find_weights, pair, box)
                self.check(pair, box)


class WeightsByTest(unittest.TestCase):
    def test_each_paper(self):
        rng = random.Random(12)
        words = set()
        for _ in range(1500):
            many = rng.randint(1, 4)
            box = rng.choice(small_boxes(many, 24))
            pair = tuple(tuple(rng.randint(1, 5) for _ in box) for _ in range(2))
            for value in bar_papers(pair, box):
                words.add(value[0])
                self.check(pair, box, value)
        self.assertEqual(words, {"sides", "step", "gap"})

    def check(self, pair, box, value):
        told = call_unchanged(self, weights_by, pair, box, value)
        if value[0] == "sides":
            expected = plain_sides_weights(pair, box, value[1], value[2])
        else:
            expected = plain_line_weights(pair, box, value[1])
        self.assertEqual(repr_deep(told), repr_deep(expected), (pair, box, value))
        self.assertIs(bars(pair, box, told), True)

    def test_along_one_axis(self):
        for a, b, side in itertools.product(range(1, 9), range(1, 9), range(1, 26)):
            for value in bar_papers(((a,), (b,)), (side,)):
                self.check(((a,), (b,)), (side,), value)

    def test_great_boxes(self):
        for pair, box in ((((21,), (22,)), (398,)), (((20,), (22,)), (399,)), (((3, 7), (7, 3)), (20, 20)),
                          (((2, 2), (2, 4)), (1, 399)), (((3, 3, 3), (4, 4, 4)), (7, 5, 11)),
                          (((3, 2, 3, 2), (3, 3, 3, 4)), (4, 5, 4, 5)), (((MOST,), (MOST - 1,)), (400,))):
            self.assertTrue(bar_papers(pair, box))
            for value in bar_papers(pair, box):
                self.check(pair, box, value)
                call_quick(self, weights_by, pair, box, value)

    def check_bad(self, pair, box, value):
        check_raises(self, BadPaper, {"given": value}, weights_by, pair, box, value)

    def test_cuts(self):
        for pair, box in ((((2, 2), (3, 3)), (6, 6)), (((2,), (3,)), (5,)), (((1,) * 4,) * 2, (1, 2, 1, 2))):
            for number in range(count_cuts(pair, box)):
                value = ("cut",) + cut_at(pair, box, number)
                self.assertIs(paper_holds(pair, box, value), True)
                self.check_bad(pair, box, value)

    def test_papers_that_do_not_hold(self):
        for pair, box in ((((2, 2), (3, 3)), (5, 5)), (((2, 2), (3, 3)), (1, 1)), (((2, 2), (4, 4)), (3, 4)),
                          (((3,), (5,)), (7,)), (((2, 1), (1, 2)), (1, 3)), (((2, 2), (3, 3)), (5, 6))):
            right = {repr_deep(value) for value in bar_papers(pair, box)}
            wrong = [value for paper in bar_papers(pair, box) for value in bent(paper)]
            wrong += [("sides", i, j) for i in range(-2, 3) for j in range(-2, 3)]
            wrong += [("step", axis) for axis in range(-2, 3)] + [("gap", 0, x, y) for x in range(4) for y in range(3)]
            for value in wrong:
                if repr_deep(value) not in right:
                    self.check_bad(pair, box, value)

    def test_values_of_any_kind(self):
        for value in ANY_VALUES + NO_INTEGERS:
            if value != ("gap", 0, 2, 1):
                self.check_bad(((2, 2), (3, 3)), (1, 1), value)
            self.check_bad(((2, 2), (3, 3)), (6, 6), value)
            self.check_bad(((2, 2), (3, 3)), (6, 6), ("step", value))


class ThicknessTest(unittest.TestCase):
    def cases(self, seed):
        """Kinds, a box and fillings of it with numbers."""
        rng = random.Random(seed)
        for many, kinds, boxes in (
            (1, ((1,), (2,), (3,), (2,)), ((1,), (2,), (5,), (7,))),
            (2, ((1, 1), (2, 1), (1, 2), (2, 2)), ((1, 1), (2, 2), (3, 2), (3, 4))),
            (3, ((1, 1, 1), (2, 1, 1), (1, 1, 2), (1, 2, 2)), ((1, 1, 1), (2, 1, 2), (2, 2, 3))),
            (4, ((1, 1, 1, 1), (2, 1, 1, 1), (1, 1, 2, 1), (1, 1, 2, 1)), ((1, 1, 1, 1), (2, 1, 2, 1), (2, 2, 2, 1))),
        ):
            for box in boxes:
                for _ in range(6):
                    fillings = [(random_filling(kinds, box, rng), rng.choice((1, 2, 5, GREAT)))
                                for _ in range(rng.randint(1, 4))]
                    yield kinds, box, fillings

    def check(self, kinds, box, value):
        expected = plain_thickness(kinds, box, value) if is_thick_form(kinds, box, value) else None
        told = call_unchanged(self, thickness, kinds, box, value)
        self.assertEqual(repr_deep(told), repr_deep(expected), (kinds, box, value))
        return told

    def test_fillings_taken_together(self):
        for kinds, box, fillings in self.cases(13):
            value = taken_together(fillings)
            self.assertEqual(self.check(kinds, box, value), sum(number for _, number in fillings))

    def test_bricks_less_or_more(self):
        rng = random.Random(14)
        for kinds, box, fillings in self.cases(15):
            value = taken_together(fillings)
            for at, (kind, corner, number) in enumerate(value):
                self.check(kinds, box, value[:at] + value[at + 1:])
                self.check(kinds, box, put(value, at, (kind, corner, number + 1)))
                self.check(kinds, box, put(value, at, (kind, corner, number - 1)))
            for placed in rng.sample(plain_places(kinds, box), min(5, len(plain_places(kinds, box)))):
                self.check(kinds, box, taken_together([(value_of(value), 1), ((placed,), 3)]))
            self.check(kinds, put(box, 0, box[0] + 1), value)
            self.check(kinds, put(box, len(box) - 1, box[-1] + 1), value)

    def test_one_part_otherwise(self):
        for kinds, box, value in (
            (((1,), (2,)), (2,), ((0, (0,), 1), (0, (1,), 1), (1, (0,), 3))), (((1,),), (1,), ((0, (0,), 1),)),
            (((1, 2), (1, 1)), (1, 2), ((0, (0, 0), 2), (1, (0, 0), 1), (1, (0, 1), 1))),
            (((1, 1, 1, 2), (1, 1, 1, 1)), (1, 1, 1, 2), ((0, (0, 0, 0, 0), 1),)),
        ):
            self.assertIsNotNone(self.check(kinds, box, value))
            for other in bent(value):
                self.check(kinds, box, other)

    def test_all_small_ones(self):
        kinds, box = ((1,), (2,), (2,)), (3,)
        bricks = plain_places(kinds, box)
        told = set()
        for numbers in itertools.product(range(3), repeat=len(bricks)):
            value = tuple(placed + (number,) for placed, number in zip(bricks, numbers) if number)
            told.add(self.check(kinds, box, value))
        self.assertEqual(told, {None, 1, 2, 3, 4})

    def test_a_brick_twice(self):
        self.assertIsNone(self.check(((1,), (2,)), (1,), ((0, (0,), 1), (0, (0,), 1))))
        self.assertIsNone(self.check(((1,), (2,)), (1,), ((0, (0,), 1), (0, (0,), 2))))
        self.assertIsNone(self.check(((1,), (2,)), (2,), ((0, (1,), 1), (0, (0,), 1))))
        self.assertEqual(self.check(((1,), (1,)), (1,), ((0, (0,), 1), (1, (0,), 2))), 3)

    def test_boxes_without_a_filling(self):
        rng = random.Random(16)
        for pair, box in ((((2,), (3,)), (1,)), (((2,), (4,)), (5,)), (((2, 1), (1, 3)), (3, 4)),
                          (((2, 2), (3, 3)), (5, 5))):
            bricks = plain_places(pair, box)
            for _ in range(40):
                chosen = sorted(rng.sample(bricks, rng.randint(0, len(bricks))))
                self.assertIsNone(self.check(pair, box, tuple(placed + (rng.randint(1, 3),) for placed in chosen)))

    def test_values_of_any_kind(self):
        for value in ANY_VALUES + NO_INTEGERS:
            for other in (value, (value,), ((0, (0, 0), 1), value), ((0, (0, 0), value),), ((0, value, 1),),
                          ((value, (0, 0), 1),), ((0, (0, 0), 1, value),)):
                self.check(((1, 1), (1, 2)), (1, 1), other)

    def test_great_boxes(self):
        for box in GREAT_BOXES:
            kinds = ((1,) * len(box), tuple((side + 1) // 2 for side in box), box, (1,) * len(box))
            rng = random.Random(17)
            value = taken_together([(random_filling(kinds, box, rng), GREAT), (random_filling(kinds, box, rng), 1)])
            self.assertEqual(call_quick(self, thickness, kinds, box, value), GREAT + 1)
            every = tuple(placed + (1,) for placed in plain_places(kinds, box))
            self.assertEqual(call_quick(self, thickness, kinds, box, every), plain_thickness(kinds, box, every))
            self.assertIsNone(call_quick(self, thickness, kinds, box, value * 500))


def value_of(thick):
    """The placed bricks of a thick filling, each as often as its number tells, up to three times."""
    return [(kind, corner) for kind, corner, number in thick for _ in range(min(number, 3))]


class AllTogetherTest(unittest.TestCase):
    def test_exactly_one_is_so(self):
        rng = random.Random(18)
        for _ in range(800):
            many = rng.randint(1, 4)
            box = rng.choice(small_boxes(many, 20))
            pair = tuple(tuple(rng.randint(1, rng.choice((2, 3, 5))) for _ in box) for _ in range(2))
            filled = is_plainly_filled(pair, box)
            self.assertIs(is_filled(pair, box), filled)
            self.assertEqual(paper(pair, box)[0] == "cut", filled)
            self.assertEqual(fill(pair, box) is not None, filled)
            self.assertEqual(find_weights(pair, box) is None, filled)
            self.assertEqual(count_cuts(pair, box) > 0, filled)
            self.assertEqual(bar_papers(pair, box) == (), filled)

    def test_the_same_behind_other_calls(self):
        rng = random.Random(19)
        calls = []
        for _ in range(200):
            box = rng.choice(small_boxes(rng.randint(1, 4), 20))
            pair = tuple(tuple(rng.randint(1, 3) for _ in box) for _ in range(2))
            calls.extend((function, pair, box) for function in (fill, find_weights, paper, bar_papers, count_cuts))
        results = [repr_deep(function(pair, box)) for function, pair, box in calls]
        order = rng.sample(range(len(calls)), len(calls))
        for at in order:
            function, pair, box = calls[at]
            self.assertEqual(repr_deep(function(pair, box)), results[at])

    def test_bars_and_fillings(self):
        kinds, box = ((1, 2), (2, 1)), (2, 3)
        for filling in plain_fillings(kinds, box):
            self.assertEqual(thickness(kinds, box, tuple(placed + (1,) for placed in filling)), 1)
            self.assertEqual(len(filling) * 2, math.prod(box))


if __name__ == "__main__":
    unittest.main()
