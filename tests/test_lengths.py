"""A3, L1: lengths, the units of which they are whole multiples, and boxes with such sides."""

import itertools
import math
import random
import unittest
from fractions import Fraction

from tests.values import MOST, call_quick, call_unchanged, check_error, check_names, put, repr_deep
from twobricks.errors import TooLarge
from twobricks.lengths import lengths_filled, units, whole
from twobricks.papers import is_filled

K = (((1, 2), (4, 1)), ((3, 4), (6, 1)))


def pair_of(fraction):
    return (fraction.numerator, fraction.denominator)


def some_length(rng, most):
    """A length with both numbers up to most, as a tuple."""
    return pair_of(Fraction(rng.randint(1, most), rng.randint(1, most)))


def some_case(rng, most, count=None):
    """Kinds and a box of lengths; as many kinds as told."""
    many = rng.randint(1, 4)
    count = count or rng.randint(1, 4)
    kinds = tuple(tuple(some_length(rng, most) for _ in range(many)) for _ in range(count))
    return kinds, tuple(some_length(rng, most) for _ in range(many))


def plain_unit(lengths):
    """The greatest fraction of which all are whole multiples: they are counted in one that is small enough first."""
    fine = math.lcm(*[lower for _, lower in lengths])
    return Fraction(math.gcd(*[upper * (fine // lower) for upper, lower in lengths]), fine)


def plain_whole(kinds, box):
    """The pair of whole, whatever the size of the numbers is."""
    found = [plain_unit([sides[axis] for sides in kinds + (box,)]) for axis in range(len(box))]
    counts = [tuple(Fraction(*length) / unit for length, unit in zip(sides, found)) for sides in kinds + (box,)]
    for sides in counts:
        assert all(count.denominator == 1 for count in sides)
    counts = [tuple(int(count) for count in sides) for sides in counts]
    return tuple(counts[:-1]), counts[-1]


def first_too_large(kinds, box):
    """The first axis along which one of the numbers is above the bound; None if there is none."""
    for axis in range(len(box)):
        if max(sides[axis] for sides in kinds + (box,)) > MOST:
            return axis
    return None


class DocumentTest(unittest.TestCase):
    def test_examples(self):
        self.assertEqual(
            [units(K, ((5, 4), (12, 1))), whole(K, ((5, 4), (12, 1))), lengths_filled(K, ((5, 4), (12, 1))),
             lengths_filled(K, ((1, 4), (12, 1)))],
            [((1, 4), (2, 1)), (((2, 2), (3, 3)), (5, 6)), True, False])

    def test_by_name(self):
        for box in (((5, 4), (12, 1)), ((1, 4), (12, 1))):
            check_names(self, units, kinds=K, box=box)
            check_names(self, whole, kinds=K, box=box)
            check_names(self, lengths_filled, pair=K, box=box)


class UnitsTest(unittest.TestCase):
    def check(self, kinds, box):
        expected = tuple(pair_of(plain_unit([sides[axis] for sides in kinds + (box,)])) for axis in range(len(box)))
        told = call_unchanged(self, units, kinds, box)
        self.assertEqual(repr_deep(told), repr_deep(expected), (kinds, box))

    def test_small_ones_by_trying(self):
        # The greatest fraction: it divides all, and no greater one with a small enough number below does.
        lengths = ((1, 1), (1, 2), (2, 1), (2, 3), (3, 4), (5, 6), (4, 1), (6, 1))
        tried = sorted({Fraction(upper, lower) for upper in range(1, 13) for lower in range(1, 61)}, reverse=True)
        for chosen in itertools.product(lengths, repeat=3):
            right = next(unit for unit in tried
                         if all((Fraction(*length) / unit).denominator == 1 for length in chosen))
            self.assertEqual(units(((chosen[0],), (chosen[1],)), (chosen[2],)), (pair_of(right),), chosen)

    def test_all_sizes(self):
        rng = random.Random(1)
        for most in (4, 30, 1000, MOST):
            for _ in range(150):
                self.check(*some_case(rng, most))

    def test_whole_numbers(self):
        rng = random.Random(2)
        for _ in range(150):
            many = rng.randint(1, 4)
            step = rng.choice((1, 2, 6, 1000))
            sides = [tuple((step * rng.randint(1, 50), 1) for _ in range(many)) for _ in range(rng.randint(2, 5))]
            self.check(tuple(sides[1:]), sides[0])
            found = [math.gcd(*[length[axis][0] for length in sides]) for axis in range(many)]
            self.assertEqual(units(tuple(sides[1:]), sides[0]), tuple((number, 1) for number in found))

    def test_known(self):
        for kinds, box, expected in (
            ((((1, 1),),), ((1, 1),), ((1, 1),)), ((((MOST, 1),),), ((MOST, 1),), ((MOST, 1),)),
            ((((1, MOST),),), ((1, MOST),), ((1, MOST),)), ((((MOST, 1),),), ((1, MOST),), ((1, MOST),)),
            ((((1, 2),), ((1, 3),)), ((1, 5),), ((1, 30),)), ((((2, 3),), ((4, 9),)), ((6, 5),), ((2, 45),)),
            ((((1, MOST),), ((1, MOST - 1),)), ((1, 1),), ((1, MOST * (MOST - 1)),)),
            ((((1, MOST),), ((1, MOST - 1),), ((1, MOST - 3),), ((1, 7),)), ((1, 1),),
             ((1, math.lcm(MOST, MOST - 1, MOST - 3, 7)),)),
            ((((3, 4), (1, 1)),), ((3, 2), (5, 1)), ((3, 4), (1, 1))),
            ((((1, 2), (4, 1), (1, 1), (9, 7)),), ((1, 1), (6, 1), (1, 1), (6, 7)), ((1, 2), (2, 1), (1, 1), (3, 7))),
        ):
            self.assertEqual(repr_deep(call_quick(self, units, kinds, box)), repr_deep(expected), (kinds, box))
            self.check(kinds, box)

    def test_the_box_counts(self):
        # The unit hangs on the box as well as on each of the kinds.
        self.assertEqual(units((((1, 1),), ((1, 1),)), ((1, 3),)), ((1, 3),))
        for at in range(4):
            kinds = put((((1, 1),),) * 4, at, ((1, 5),))
            self.assertEqual(units(kinds, ((1, 1),)), ((1, 5),))
            self.assertEqual(whole(kinds, ((1, 1),)), (put(((5,),) * 4, at, (1,)), (5,)))


class WholeTest(unittest.TestCase):
    def check(self, kinds, box):
        expected = plain_whole(kinds, box)
        axis = first_too_large(*expected)
        if axis is not None:
            self.check_too_large(axis, kinds, box)
        else:
            self.assertEqual(repr_deep(call_unchanged(self, whole, kinds, box)), repr_deep(expected), (kinds, box))
            for pair in ((kinds[0], kinds[-1]), kinds):
                if len(pair) == 2:
                    self.check_filled(pair, box)
        return axis

    def check_too_large(self, axis, kinds, box):
        for function in (whole, lengths_filled) if len(kinds) == 2 else (whole,):
            check_error(self, TooLarge, {"axis": axis}, function, kinds, box)

    def check_filled(self, pair, box):
        told = call_unchanged(self, lengths_filled, pair, box)
        self.assertIs(told, is_filled(*plain_whole(pair, box)), (pair, box))

    def test_all_sizes(self):
        rng = random.Random(3)
        found = set()
        for most in (4, 10, 100, 3000, 10 ** 6, MOST):
            for _ in range(150):
                found.add(self.check(*some_case(rng, most)))
            for _ in range(60):
                found.add(self.check(*some_case(rng, most, count=2)))
        self.assertEqual(found, {None, 0, 1, 2, 3})

    def test_whole_numbers(self):
        rng = random.Random(4)
        for _ in range(150):
            many = rng.randint(1, 4)
            pair = tuple(tuple(rng.randint(1, 12) for _ in range(many)) for _ in range(2))
            box = tuple(math.lcm(a, b) * rng.randint(1, 3) for a, b in zip(*pair))
            box = put(box, 0, rng.randint(1, 40))
            lengths = [tuple((side, 1) for side in sides) for sides in pair + (box,)]
            self.assertIs(lengths_filled(tuple(lengths[:2]), lengths[2]), is_filled(pair, box))
            self.check(tuple(lengths[:2]), lengths[2])

    def test_each_axis_too_large(self):
        for many in (1, 2, 3, 4):
            ones = ((1, 1),) * many
            for axis in range(many):
                # One brick has 10 ** 12 units and more, the other one as many as fit in the box.
                for fine in ((1, 2), (1, 3), (2, 7)):
                    for sides in ((put(ones, axis, (MOST, 1)), put(ones, axis, fine), ones),
                                  (ones, put(ones, axis, (MOST, 1)), put(ones, axis, fine)),
                                  (put(ones, axis, fine), ones, put(ones, axis, (MOST, 1)))):
                        self.assertEqual(self.check(sides[:2], sides[2]), axis)
                later = put(ones, many - 1, (MOST, 1))
                kinds = (put(later, axis, (MOST, 1)), put(put(ones, many - 1, (1, 5)), axis, (1, 5)))
                self.assertEqual(self.check(kinds, ones), axis)

    def test_at_the_bound(self):
        for upper, lower, axis in ((MOST, 1, None), (MOST // 2, 2, None), (1, MOST, None), (MOST // 2 + 1, 2, 0),
                                   (MOST - 1, 2, 0), (MOST, 3, 0), (10 ** 6, 10 ** 6, None), (10 ** 6 + 1, 10 ** 6, 0)):
            fine, coarse = ((1, lower),), ((upper, 1),)
            for kinds, box in (((fine, coarse), fine), ((coarse, fine), fine), ((fine, fine), coarse),
                               ((coarse, coarse), fine), ((fine, fine, fine, coarse), fine)):
                self.assertEqual(self.check(kinds, box), axis, (kinds, box))
            self.assertEqual(self.check((fine,), coarse), axis)

    def test_known(self):
        for pair, box, right in (
            ((((1, 2),), ((1, 3),)), ((5, 6),), True), ((((1, 2),), ((1, 3),)), ((1, 6),), False),
            ((((1, 2),), ((1, 3),)), ((1, 7),), False), ((((2, 3),), ((5, 7),)), ((29, 21),), True),
            ((((1, 2), (1, 2)), ((1, 3), (1, 3))), ((5, 6), (1, 1)), True),
            ((((1, 2), (1, 2)), ((1, 3), (1, 3))), ((5, 6), (5, 6)), False),
            ((((1, MOST),), ((1, MOST),)), ((1, 1),), True), ((((1, MOST),), ((1, MOST),)), ((1, MOST),), True),
            ((((2, MOST - 1),), ((2, MOST - 1),)), ((1, MOST - 1),), False),
        ):
            self.assertIs(call_quick(self, lengths_filled, pair, box), right, (pair, box))
            self.check(pair, box)

    def test_great_numbers_in_no_time(self):
        rng = random.Random(5)
        for _ in range(60):
            kinds, box = some_case(rng, MOST, count=2)
            call_quick(self, units, kinds, box)
            factor = rng.randint(1, 10 ** 5)
            lengths = tuple(tuple((factor * number, 1) for number, _ in sides) for sides in (((2, 1),), ((3, 1),)))
            told = call_quick(self, lengths_filled, lengths, ((factor * 5, 1),))
            self.assertIs(told, True)
            self.assertEqual(whole(lengths, ((factor * 5, 1),)), (((2,), (3,)), (5,)))


if __name__ == "__main__":
    unittest.main()
