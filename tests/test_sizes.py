"""A2, A3, F1, F2, F3, F4: the sides that fit along an axis, and the boxes up to some sides that are filled."""

import itertools
import math
import random
import unittest

from tests.values import (
    ANY_VALUES, MOST, NO_INTEGERS, call_quick, call_unchanged, check_names, check_raises, is_integer,
    is_plainly_filled, put, repr_deep, some_pair,
)
from twobricks.errors import NoNumber
from twobricks.papers import is_filled
from twobricks.sizes import (
    along, box_at, box_number, count_along, count_boxes, last_gap, next_side, side_at, side_number, tail,
)

P = ((2, 2), (3, 3))

# Lengths whose sums are far apart, close together, with and without a common divisor.
GREAT_LENGTHS = (
    (MOST - 1, MOST), (MOST, MOST - 1), (MOST - 2, MOST), (10 ** 6, 10 ** 6 + 1), (999983, 10 ** 6 + 3), (2, MOST - 1),
    (3, MOST), (MOST - 3, 2), (6, 10), (1000, 1001), (10 ** 6 - 1, 10 ** 6 + 1), (4, 6), (10 ** 9 + 7, 998244353),
    (10 ** 6, 10 ** 6 + 2), (7 * 10 ** 11, 3 * 10 ** 11), (600000, 10 ** 12),
)


def fits(pair, box, axis, side):
    return is_filled(pair, put(box, axis, side))


def line(a, b):
    """A pair along one axis and a box for it."""
    return ((a,), (b,)), (1,)


def pattern(sides):
    """What along must tell, given which sides from 1 on fit, in a list that is long enough to see it."""
    fitting = [side for side, fit in enumerate(sides) if fit]
    if not fitting:
        return ("none",)
    low = fitting[0]
    others = [side for side in fitting if side % low]
    if not others:
        return ("steps", low)
    return ("sums", low, others[0])


def is_so(told, side):
    """Whether a side fits, by what along tells."""
    if told[0] == "none":
        return False
    if told[0] == "steps":
        return side % told[1] == 0
    return any((side - high) % told[1] == 0 for high in range(0, side + 1, told[2]))


def small_cases(count, seed):
    """Pairs, boxes and axes, of each dimension."""
    rng = random.Random(seed)
    for many, longest in ((1, 7), (2, 5), (3, 4), (4, 3)):
        for _ in range(count):
            pair = some_pair(rng, many, longest)
            box = tuple(rng.choice((a, b, math.lcm(a, b), a + b, rng.randint(1, 9))) for a, b in zip(*pair))
            yield pair, box, rng.randrange(many)


def all_fits(pair, box, axis):
    """Whether each side fits, from 0 (not a side) on up to where the pattern can be seen."""
    most = 3 * math.lcm(pair[0][axis], pair[1][axis]) + 2
    return [False] + [fits(pair, box, axis, side) for side in range(1, most + 1)]


def plain_tail(sides):
    """What tail must tell, given which sides fit, as all_fits tells them."""
    last = len(sides) - 1
    for period in range(1, last):
        start = last - period
        while start >= 1 and sides[start] == sides[start + period]:
            start -= 1
        # What is so over two thirds of all sides, which are two of the longest periods there may be, is so always.
        if 3 * (start + period) <= last:
            return (start + 1, period)
    return None


def sums_to(a, b, most):
    """How many sums there are up to most, found by going through the fewer ones of the numbers of both lengths."""
    low, high = sorted((a, b))
    step = math.gcd(low, high)
    most_high = min(low // step - 1, most // high)
    return sum((most - high * times) // low + 1 for times in range(most_high + 1)) - 1


def next_sum(a, b, least):
    """The least sum that is at least least, found by going through the numbers of the greater length."""
    low, high = sorted((a, b))
    most_high = min(low // math.gcd(low, high) - 1, -(-least // high))
    found = []
    for times in range(most_high + 1):
        rest = max(0, least - times * high)
        found.append(times * high + -(-rest // low) * low)
    return min(found)


def every_box(most):
    return itertools.product(*[range(1, side + 1) for side in most])


class DocumentTest(unittest.TestCase):
    def test_examples(self):
        self.assertEqual(
            [along(P, (5, 6), 0), along(P, (5, 6), 1), along(P, (4, 8), 0), along(P, (4, 7), 0), along(P, (1, 1), 0),
             along(((2, 1), (4, 1)), (1, 5), 0)],
            [('sums', 2, 3), ('steps', 6), ('steps', 2), ('steps', 6), ('none',), ('steps', 2)])
        self.assertEqual(
            [next_side(P, (5, 6), 0, 1), next_side(P, (5, 6), 1, 7), next_side(P, (1, 1), 0, 1),
             last_gap(P, (5, 6), 0), last_gap(P, (5, 6), 1), tail(P, (5, 6), 0), tail(P, (5, 6), 1),
             tail(P, (1, 1), 0)],
            [2, 12, None, 1, None, (2, 1), (1, 6), (1, 1)])
        self.assertEqual(
            [count_along(P, (5, 6), 0, 10), side_at(P, (5, 6), 0, 3), side_number(P, (5, 6), 0, 5),
             side_number(P, (5, 6), 0, 1), count_along(((4, 1), (6, 1)), (1, 1), 0, 20),
             side_at(((4, 1), (6, 1)), (1, 1), 0, 2)],
            [9, 5, 3, None, 9, 8])
        self.assertEqual(
            [count_boxes(P, (6, 6)), box_at(P, (6, 6), 0), box_at(P, (6, 6), 8), box_number(P, (6, 6), (5, 6)),
             box_number(P, (6, 6), (5, 5))],
            [14, (2, 2), (5, 6), 8, None])
        with self.assertRaises(NoNumber) as held:
            box_at(P, (6, 6), 14)
        self.assertEqual(held.exception.number, 14)

    def test_by_name(self):
        for box in ((5, 6), (1, 1)):
            for function in (along, last_gap, tail):
                check_names(self, function, pair=P, box=box, axis=1)
            check_names(self, next_side, pair=P, box=box, axis=0, least=7)
            check_names(self, count_along, pair=P, box=box, axis=0, most=10)
            check_names(self, side_at, pair=P, box=box, axis=0, number=3)
            check_names(self, side_number, pair=P, box=box, axis=0, side=5)
        check_names(self, count_boxes, pair=P, most=(6, 7))
        check_names(self, box_at, pair=P, most=(6, 7), number=8)
        check_names(self, box_number, pair=P, most=(6, 7), box=(5, 6))


class AlongTest(unittest.TestCase):
    def test_small_sides(self):
        words = set()
        for pair, box, axis in small_cases(250, seed=1):
            told = call_unchanged(self, along, pair, box, axis)
            self.assertEqual(repr_deep(told), repr_deep(pattern(all_fits(pair, box, axis))), (pair, box, axis))
            words.add(told[0])
            for side, fit in list(enumerate(all_fits(pair, box, axis)))[1:]:
                self.assertEqual(is_so(told, side), fit, (pair, box, axis, side))
        self.assertEqual(words, {"none", "steps", "sums"})

    def test_against_laying(self):
        for pair, box, axis in small_cases(12, seed=2):
            told = along(pair, box, axis)
            cells = math.prod(box) // box[axis]
            for side in range(1, min(15, 24 // cells) + 1):
                self.assertEqual(is_so(told, side), is_plainly_filled(pair, put(box, axis, side)))

    def test_the_side_along_the_axis_does_not_matter(self):
        for pair, box, axis in small_cases(40, seed=3):
            for side in (1, 2, 6, MOST):
                other = put(box, axis, side)
                for function in (along, last_gap, tail):
                    self.assertEqual(repr_deep(function(pair, other, axis)), repr_deep(function(pair, box, axis)))
                for function in (next_side, count_along, side_at, side_number):
                    self.assertEqual(function(pair, other, axis, 5), function(pair, box, axis, 5))

    def test_both_kinds_the_other_way_round(self):
        for pair, box, axis in small_cases(60, seed=4):
            self.assertEqual(along(pair[::-1], box, axis), along(pair, box, axis))

    def test_one_axis(self):
        for a, b in itertools.product(range(1, 13), repeat=2):
            low, high = min(a, b), max(a, b)
            expected = ("steps", low) if high % low == 0 else ("sums", low, high)
            self.assertEqual(repr_deep(along(*line(a, b), 0)), repr_deep(expected))

    def test_great_sides(self):
        for a, b in GREAT_LENGTHS:
            low, high = min(a, b), max(a, b)
            sums = ("steps", low) if high % low == 0 else ("sums", low, high)
            step = math.lcm(a, b)
            for pair, box, axis, expected in (
                (((a,), (b,)), (MOST,), 0, sums), (((a, 2), (b, 3)), (7, 6), 0, sums),
                (((2, a), (3, b)), (MOST - MOST % 6, 7), 1, sums), (((a, 2), (b, 3)), (7, 4), 0, ("steps", a)),
                (((a, 2), (b, 3)), (7, 9), 0, ("steps", b)), (((a, 2), (b, 3)), (7, 7), 0, ("steps", step)),
                (((a, 2), (b, 3)), (7, 1), 0, ("none",)), (((a, 2), (b, 2)), (7, MOST - 1), 0, ("none",)),
                (((a, 2, 1), (b, 3, 1)), (7, 5, MOST), 0, ("steps", step)),
                (((a, 2, 2), (b, 3, 3)), (7, 5, 7), 0, ("none",)),
                (((a, 2, 2), (b, 3, 3)), (7, 6, 7), 0, ("steps", step)),
                (((a, 2, 2), (b, 3, 3)), (7, 4, 7), 0, ("none",)),
                (((a, 2, 2, 1), (b, 3, 3, 5)), (7, 6, 11, 10), 0, ("steps", step)),
                (((a, 2, 2, 1), (b, 3, 3, 5)), (7, 6, 11, 7), 0, ("none",)),
            ):
                told = call_quick(self, along, pair, box, axis)
                self.assertEqual(repr_deep(told), repr_deep(expected), (pair, box))


class NextSideTest(unittest.TestCase):
    def test_small_sides(self):
        for pair, box, axis in small_cases(60, seed=5):
            sides = all_fits(pair, box, axis)
            for least in range(1, len(sides) - max(pair[0][axis], pair[1][axis]) - 1):
                behind = [side for side in range(least, len(sides)) if sides[side]]
                told = call_unchanged(self, next_side, pair, box, axis, least)
                if behind:
                    self.assertEqual(repr_deep(told), repr_deep(behind[0]), (pair, box, axis, least))
                else:
                    self.assertTrue(told is None or told >= len(sides))
                    self.assertEqual(told is None, along(pair, box, axis) == ("none",))

    def test_no_side(self):
        for least in (1, 2, 17, MOST - 1, MOST):
            self.assertIsNone(next_side(P, (1, 1), 0, least))
            self.assertIsNone(next_side(((2, 2, 2), (3, 3, 3)), (7, 5, 7), 0, least))

    def test_steps_beyond_the_bound(self):
        for step in (1, 2, 3, 7, MOST - 1, MOST, MOST // 2 + 1):
            for least in (1, 2, step, min(step + 1, MOST), max(step - 1, 1), MOST - 1, MOST):
                expected = -(-least // step) * step
                self.assertEqual(call_quick(self, next_side, *line(step, step), 0, least), expected)
        # Both have to fit where a cut is across another axis only.
        pair, box = ((MOST, 2), (MOST - 1, 3)), (1, 5)
        self.assertIsNone(next_side(((MOST, 2), (MOST - 1, 3)), (1, 1), 0, 1))
        for least in (1, MOST):
            self.assertEqual(next_side(pair, box, 0, least), MOST * (MOST - 1))

    def test_great_sums(self):
        rng = random.Random(6)
        for a, b in GREAT_LENGTHS:
            numbers = [1, 2, a - 1, a, b, min(a + 1, MOST), MOST - 1, MOST] + [rng.randint(1, MOST) for _ in range(4)]
            for least in numbers:
                if not 1 <= least:
                    continue
                if min(a, b, least // max(a, b)) < 10 ** 4:
                    expected = next_sum(a, b, least)
                    told = call_quick(self, next_side, *line(a, b), 0, least)
                    self.assertEqual(repr_deep(told), repr_deep(expected), (a, b, least))

    def test_neighbors(self):
        # The sums of a and a + 1 are those from k * a to k * (a + 1) for each k.
        rng = random.Random(7)
        for a in (10 ** 6 - 1, 10 ** 6, 123456, 999, MOST - 1, MOST // 2, 10 ** 8):
            for least in [1, a, a + 1, a + 2, MOST - 1, MOST] + [rng.randint(1, MOST) for _ in range(20)]:
                if least <= MOST:
                    times = max(1, -(-least // (a + 1)))
                    expected = max(least, times * a)
                    self.assertEqual(call_quick(self, next_side, *line(a, a + 1), 0, least), expected, (a, least))
                    self.assertEqual(next_side(((a + 1, 5), (a, 5)), (3, 15), 0, least), expected)

    def test_at_sides_that_fit(self):
        rng = random.Random(8)
        for a, b in GREAT_LENGTHS:
            for _ in range(10):
                side = rng.randint(0, MOST // (2 * a)) * a + rng.randint(0, MOST // (2 * b)) * b
                if 1 <= side <= MOST:
                    self.assertEqual(call_quick(self, next_side, *line(a, b), 0, side), side)


class GapsTest(unittest.TestCase):
    def test_small_sides(self):
        for pair, box, axis in small_cases(120, seed=9):
            sides = all_fits(pair, box, axis)
            gaps = [side for side, fit in enumerate(sides) if side and not fit]
            # If there is a greatest gap it is far from the end of what is looked at.
            expected = None if gaps and gaps[-1] > len(sides) // 2 else (gaps[-1] if gaps else 0)
            told = call_unchanged(self, last_gap, pair, box, axis)
            self.assertEqual(repr_deep(told), repr_deep(expected), (pair, box, axis))

    def test_along_one_axis(self):
        for a, b in itertools.product(range(1, 15), repeat=2):
            told = last_gap(*line(a, b), 0)
            if 1 in (a, b):
                self.assertEqual(repr_deep(told), repr_deep(0))
            elif math.gcd(a, b) > 1:
                self.assertIsNone(told)
            else:
                sums = [False] + [is_so(("sums", a, b), side) for side in range(1, a * b + a + b)]
                self.assertEqual(told, max(side for side in range(1, len(sums)) if not sums[side]))

    def test_great_sides(self):
        for a, b in GREAT_LENGTHS:
            told = call_quick(self, last_gap, *line(a, b), 0)
            if math.gcd(a, b) > 1:
                self.assertIsNone(told)
                continue
            self.assertEqual(repr_deep(told), repr_deep(a * b - a - b))
            self.assertIs(is_filled(((a,), (b,)), (told,)), False)
            for side in range(told + 1, told + 30):
                self.assertIs(is_filled(((a,), (b,)), (side,)), True)
        for pair, box, axis, expected in (
            (((MOST, 1), (1, 1)), (5, 5), 0, 0), (((MOST, 2), (1, 3)), (5, 4), 0, None),
            (((1, 2), (MOST, 3)), (5, 4), 0, 0), (((MOST, 2), (1, 3)), (5, 9), 0, 0),
            (((1, 2), (1, 3)), (5, 7), 0, 0), (((1, 2), (2, 3)), (5, 7), 0, None), (((1, 2), (1, 3)), (5, 1), 0, None),
            (((2, 3), (MOST - 1, 2)), (7, 6), 0, MOST - 3), (((3, 2), (2, MOST - 1)), (6, 7), 1, MOST - 3),
        ):
            self.assertEqual(call_quick(self, last_gap, pair, box, axis), expected, (pair, box))

    def test_tail_of_small_sides(self):
        for pair, box, axis in small_cases(120, seed=10):
            expected = plain_tail(all_fits(pair, box, axis))
            self.assertIsNotNone(expected)
            told = call_unchanged(self, tail, pair, box, axis)
            self.assertEqual(repr_deep(told), repr_deep(expected), (pair, box, axis))

    def test_tail_along_one_axis(self):
        for a, b in itertools.product(range(1, 11), repeat=2):
            expected = plain_tail(all_fits(*line(a, b), 0))
            self.assertEqual(repr_deep(tail(*line(a, b), 0)), repr_deep(expected), (a, b))

    def test_great_tails(self):
        for a, b in GREAT_LENGTHS:
            low, high = min(a, b), max(a, b)
            step = math.gcd(a, b)
            expected = (1, low) if high % low == 0 else (math.lcm(a, b) - a - b + 1, step)
            self.assertEqual(repr_deep(call_quick(self, tail, *line(a, b), 0)), repr_deep(expected), (a, b))
            if high % low:
                start = expected[0]
                self.assertIs(is_filled(((a,), (b,)), (start - 1,)), False)
                self.assertIs(is_filled(((a,), (b,)), (start - 1 + step,)), True)
            self.assertEqual(call_quick(self, tail, ((a, 2), (b, 3)), (1, 5), 0), (1, math.lcm(a, b)))
            self.assertEqual(call_quick(self, tail, ((a, 2), (b, 3)), (1, 2), 0), (1, a))
            self.assertEqual(call_quick(self, tail, ((a, 2), (b, 3)), (1, 1), 0), (1, 1))


class NumberTest(unittest.TestCase):
    def test_small_sides(self):
        for pair, box, axis in small_cases(60, seed=11):
            sides = all_fits(pair, box, axis)
            fitting = [side for side, fit in enumerate(sides) if fit]
            for most in range(len(sides)):
                told = call_unchanged(self, count_along, pair, box, axis, most)
                self.assertEqual(repr_deep(told), repr_deep(sum(sides[:most + 1])), (pair, box, axis, most))
            for number, side in enumerate(fitting):
                told = call_unchanged(self, side_at, pair, box, axis, number)
                self.assertEqual(repr_deep(told), repr_deep(side), (pair, box, axis, number))
            for side in range(1, len(sides)):
                expected = fitting.index(side) if sides[side] else None
                told = call_unchanged(self, side_number, pair, box, axis, side)
                self.assertEqual(repr_deep(told), repr_deep(expected), (pair, box, axis, side))

    def test_nothing_fits(self):
        for pair, box in ((P, (1, 1)), (((2, 2, 2), (3, 3, 3)), (4, 5, 7)), (((MOST, 2), (MOST, 2)), (MOST, 3))):
            for number in (0, 1, 5, MOST):
                self.assertIsNone(call_quick(self, side_at, pair, box, 0, number))
                self.assertEqual(repr_deep(call_quick(self, count_along, pair, box, 0, number)), repr_deep(0))
                self.assertIsNone(call_quick(self, side_number, pair, box, 0, max(number, 1)))

    def test_great_counts(self):
        rng = random.Random(12)
        for a, b in GREAT_LENGTHS:
            for most in [0, 1, a - 1, a, b, MOST - 1, MOST] + [rng.randint(1, MOST) for _ in range(4)]:
                told = call_quick(self, count_along, *line(a, b), 0, most)
                if min(a, b, most // max(a, b)) < 10 ** 4:
                    self.assertEqual(repr_deep(told), repr_deep(sums_to(a, b, most)), (a, b, most))

    def test_neighbors(self):
        # The sums of a and a + 1 are those from k * a to k * (a + 1) for each k.
        for a in (10 ** 6, 10 ** 6 - 1, 7654321):
            for most in (MOST, 123456789012):
                expected = sum(max(0, min(times * (a + 1), most) - max(times * a, (times - 1) * (a + 1) + 1) + 1)
                               for times in range(1, most // a + 1))
                self.assertEqual(call_quick(self, count_along, *line(a, a + 1), 0, most), expected)

    def test_great_numbers(self):
        rng = random.Random(13)
        for a, b in GREAT_LENGTHS:
            for number in [0, 1, 2, MOST - 1, MOST] + [rng.randint(0, MOST) for _ in range(5)]:
                side = call_quick(self, side_at, *line(a, b), 0, number)
                self.assertTrue(is_integer(side))
                self.assertIs(is_filled(((a,), (b,)), (side,)), True)
                if side <= MOST:
                    self.check_there_and_back(*line(a, b), 0, number, side)
                # Beyond the bound, too, there are just as many sums ahead of it.
                elif min(a, b, side // max(a, b)) < 10 ** 4:
                    self.assertEqual(sums_to(a, b, side - 1), number, (a, b, number))

    def check_there_and_back(self, pair, box, axis, number, side):
        self.assertEqual(call_quick(self, side_number, pair, box, axis, side), number)
        self.assertEqual(call_quick(self, count_along, pair, box, axis, side), number + 1)
        self.assertEqual(count_along(pair, box, axis, side - 1), number)
        self.assertEqual(next_side(pair, box, axis, side), side)
        if number > 0:
            before = side_at(pair, box, axis, number - 1)
            self.assertLess(before, side)
            self.assertEqual(next_side(pair, box, axis, before + 1), side)

    def test_great_steps(self):
        for step in (1, 2, 3, 999, MOST // 3, MOST - 1, MOST):
            pair, box = ((step, 2), (MOST, 3)), (1, 2)
            for number in (0, 1, 5, MOST - 1, MOST):
                side = call_quick(self, side_at, pair, box, 0, number)
                self.assertEqual(repr_deep(side), repr_deep((number + 1) * step))
                self.assertEqual(call_quick(self, count_along, pair, box, 0, number), number // step)
                if side <= MOST:
                    self.check_there_and_back(pair, box, 0, number, side)
        pair, box = ((MOST, 2), (MOST - 1, 3)), (1, 5)
        self.assertEqual(side_at(pair, box, 0, 0), MOST * (MOST - 1))
        self.assertEqual(side_at(pair, box, 0, MOST), MOST * (MOST - 1) * (MOST + 1))
        self.assertEqual(count_along(pair, box, 0, MOST), 0)
        self.assertIsNone(side_number(pair, box, 0, MOST))
        self.assertIsNone(side_number(pair, box, 0, 1))

    def test_sides_to_the_bound(self):
        rng = random.Random(14)
        for a, b in GREAT_LENGTHS:
            for side in [1, a, b, MOST - 1, MOST] + [rng.randint(1, MOST) for _ in range(5)]:
                told = call_quick(self, side_number, *line(a, b), 0, side)
                self.assertEqual(told is not None, is_filled(((a,), (b,)), (side,)))
                if told is not None:
                    self.assertEqual(side_at(*line(a, b), 0, told), side)


class BoxesTest(unittest.TestCase):
    def check(self, pair, most):
        """Checks all numbers and all boxes up to most, and some beyond."""
        boxes = [box for box in every_box(most) if is_filled(pair, box)]
        told = call_unchanged(self, count_boxes, pair, most)
        self.assertEqual(repr_deep(told), repr_deep(len(boxes)), (pair, most))
        for number, box in enumerate(boxes):
            self.assertEqual(repr_deep(box_at(pair, most, number)), repr_deep(box), (pair, most, number))
            self.assertEqual(repr_deep(box_number(pair, most, box)), repr_deep(number), (pair, most, box))
        numbers = {box: number for number, box in enumerate(boxes)}
        for box in every_box(tuple(side + 2 for side in most)):
            if box not in numbers:
                self.assertIsNone(box_number(pair, most, box), (pair, most, box))
        for number in (-1, len(boxes), len(boxes) + 1):
            check_raises(self, NoNumber, {"number": number}, box_at, pair, most, number)

    def test_small_bounds(self):
        rng = random.Random(15)
        for many, longest, sides, count in ((1, 7, 25, 60), (2, 5, 11, 60), (3, 4, 6, 25), (4, 3, 4, 25)):
            for _ in range(count):
                self.check(some_pair(rng, many, longest), tuple(rng.randint(1, sides) for _ in range(many)))

    def test_boxes_that_only_a_cut_fills(self):
        for pair, most in ((P, (13, 12)), (((2, 3), (3, 2)), (12, 13)), (((4, 2), (6, 3)), (14, 7)),
                           (((2, 2, 2), (3, 3, 3)), (7, 6, 8)), (((1, 2, 1, 2), (2, 1, 2, 3)), (3, 4, 3, 7))):
            self.check(pair, most)
            filled = [box for box in every_box(most) if is_filled(pair, box)]
            alone = [box for box in filled if any(all(side % length == 0 for side, length in zip(box, brick))
                                                  for brick in pair)]
            self.assertLess(len(alone), len(filled))

    def test_against_laying(self):
        for pair, most in ((P, (4, 5)), (((2,), (5,)), (18,)), (((2, 1, 2), (1, 3, 1)), (2, 3, 4))):
            filled = sum(is_plainly_filled(pair, box) for box in every_box(most))
            self.assertEqual(count_boxes(pair, most), filled)

    def test_nothing_is_filled(self):
        self.assertEqual(repr_deep(count_boxes(((3, 3), (4, 4)), (2, MOST))), repr_deep(0))
        for number in (0, -1, 1, None):
            check_raises(self, NoNumber, {"number": number}, box_at, ((3, 3), (4, 4)), (2, MOST), number)

    def plain_count(self, pair, most):
        """How many boxes are filled: by one kind alone, or with both kinds along one axis."""
        both = [side // math.lcm(a, b) for a, b, side in zip(*pair, most)]
        count = -math.prod(both)
        for brick in pair:
            count += math.prod(side // length for side, length in zip(most, brick))
        for axis, (a, b, side) in enumerate(zip(*pair, most)):
            mixed = sums_to(a, b, side) - side // a - side // b + both[axis]
            count += mixed * math.prod(both[:axis] + both[axis + 1:])
        return count

    def great_cases(self):
        yield P, (MOST, MOST)
        yield ((1,) * 4, (2,) * 4), (MOST,) * 4
        yield ((6, 10, 15, 4), (10, 14, 8, 9)), (MOST,) * 4
        yield ((MOST, 1), (1, MOST)), (MOST, MOST)
        yield ((MOST - 1,), (MOST,)), (MOST,)
        yield ((2, MOST), (MOST - 1, 3)), (MOST, MOST)
        rng = random.Random(16)
        for _ in range(60):
            many = rng.randint(1, 4)
            pair = some_pair(rng, many, rng.choice((3, 50, 3000)))
            yield pair, tuple(rng.choice((MOST, MOST - 1, rng.randint(1, MOST), rng.randint(1, 50))) for _ in pair[0])

    def test_great_bounds(self):
        rng = random.Random(17)
        for pair, most in self.great_cases():
            many = call_quick(self, count_boxes, pair, most)
            self.assertEqual(repr_deep(many), repr_deep(self.plain_count(pair, most)), (pair, most))
            numbers = {0, 1, many // 2, many - 2, many - 1} | {rng.randrange(max(1, many)) for _ in range(6)}
            for number in sorted(number for number in numbers if 0 <= number < many):
                self.check_number(pair, most, number, many)
            for number in (many, many + 1, -1, -many - 1, 10 ** 30 + many):
                check_raises(self, NoNumber, {"number": number}, box_at, pair, most, number)

    def check_number(self, pair, most, number, many):
        box = call_quick(self, box_at, pair, most, number)
        self.assertIs(is_filled(pair, box), True)
        self.assertTrue(all(1 <= side <= longest for side, longest in zip(box, most)))
        self.assertEqual(repr_deep(call_quick(self, box_number, pair, most, box)), repr_deep(number))
        # The next box has the next side along the last axis, if there is one.
        last = len(most) - 1
        side = next_side(pair, box, last, min(box[last] + 1, MOST))
        if box[last] < side <= most[last]:
            self.assertEqual(box_at(pair, most, number + 1), put(box, last, side))
        elif number + 1 < many:
            self.assertLess(box[:last], box_at(pair, most, number + 1)[:last])
        for axis in range(len(most)):
            if most[axis] < MOST:
                self.assertIsNone(box_number(pair, most, put(box, axis, most[axis] + 1)))

    def test_no_numbers(self):
        for value in NO_INTEGERS + ANY_VALUES + (-1, 14, 15, 10 ** 30, -10 ** 30, 10 ** 5000):
            if not is_integer(value) or value not in range(14):
                check_raises(self, NoNumber, {"number": value}, box_at, P, (6, 6), value)
            check_raises(self, NoNumber, {"number": value}, box_at, P, (1, 6), value)

    def test_boxes_that_are_too_great(self):
        for box in ((7, 6), (6, 7), (8, 8), (6, 12), (MOST, MOST), (6, MOST), (MOST, 2)):
            self.assertIsNone(call_unchanged(self, box_number, P, (6, 6), box))
        self.assertEqual(box_number(P, (6, 6), (6, 6)), 13)
        self.assertEqual(box_number(P, (7, 6), (7, 6)), count_boxes(P, (7, 6)) - 1)

    def test_nothing_is_changed(self):
        for pair, most in ((P, (6, 7)), (((2, 1, 1), (1, 3, 1)), (5, 4, 3))):
            for number in (0, 3, 9):
                box = call_unchanged(self, box_at, pair, most, number)
                self.assertEqual(call_unchanged(self, box_number, pair, most, box), number)


if __name__ == "__main__":
    unittest.main()
