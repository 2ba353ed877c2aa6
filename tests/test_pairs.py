"""A2, A3, G1, G2, G3: pairs for all boxes, and all bricks that fill a box together with one."""

import itertools
import random
import unittest

from tests.values import (
    MOST, call_quick, call_unchanged, check_names, check_raises, is_plainly_filled, put, repr_deep, small_boxes,
    some_pair,
)
from twobricks.errors import UnlikeAxes
from twobricks.pairs import alike, atoms, escape, mates, within
from twobricks.papers import is_filled

P = ((2, 2), (3, 3))


def boxes_up_to(many, most):
    return list(itertools.product(range(1, most + 1), repeat=many))


def filled_boxes(pair, boxes):
    return {box for box in boxes if is_filled(pair, box)}


def divides(brick, box):
    return all(side % length == 0 for length, side in zip(brick, box))


def plain_escape(one, other):
    """What escape must tell: the first brick of one that, as a box, only one fills."""
    found = [brick for brick in one if not is_filled(other, brick)]
    return found[0] if found else None


def near_pair(pair, rng):
    """A pair of which some boxes are filled by the other one, too: with sides multiplied, divided or added."""
    bricks = []
    for brick in pair:
        bricks.append(tuple(rng.choice((side, side, 2 * side, 1, pair[0][axis] + pair[1][axis]))
                            for axis, side in enumerate(brick)))
    return tuple(bricks) if rng.random() < 0.7 else (bricks[1], bricks[0])


class DocumentTest(unittest.TestCase):
    def test_examples(self):
        self.assertEqual(
            [within(P, ((2, 1), (3, 1))), within(((2, 1), (3, 1)), P), escape(((2, 1), (3, 1)), P),
             alike(((2, 2), (4, 2)), ((2, 2), (2, 2))), atoms(((2, 2), (4, 2))), atoms(((3, 1), (2, 2)))],
            [True, False, (2, 1), True, ((2, 2),), ((2, 2), (3, 1))])
        with self.assertRaises(UnlikeAxes):
            within(P, ((2,), (3,)))
        self.assertEqual([mates((2, 2), (3, 2)), mates((2,), (7,))],
                         [((1, 1), (1, 2), (3, 1), (3, 2)), ((1,), (3,), (5,), (7,))])

    def test_by_name(self):
        for other in (((2, 1), (3, 1)), ((2, 4), (3, 6))):
            for function in (within, escape, alike):
                check_names(self, function, one=P, other=other)
        check_names(self, atoms, pair=((3, 1), (2, 2)))
        check_names(self, mates, brick=(2, 2), box=(3, 2))


class WithinTest(unittest.TestCase):
    def check(self, one, other, boxes):
        """Checks all three against which of the boxes are filled by either."""
        inside, outside = filled_boxes(one, boxes), filled_boxes(other, boxes)
        self.assertIs(call_unchanged(self, within, one, other), inside <= outside, (one, other))
        self.assertIs(call_unchanged(self, alike, one, other), inside == outside, (one, other))
        told = call_unchanged(self, escape, one, other)
        self.assertEqual(repr_deep(told), repr_deep(plain_escape(one, other)), (one, other))
        self.assertEqual(told is None, inside <= outside)
        self.assertEqual(set(atoms(one)) == set(atoms(other)), inside == outside)
        self.assertEqual(repr_deep(atoms(one)) == repr_deep(atoms(other)), inside == outside)
        return inside <= outside

    def test_one_axis(self):
        boxes = boxes_up_to(1, 40)
        for a, b, c, d in itertools.product(range(1, 7), repeat=4):
            self.check(((a,), (b,)), ((c,), (d,)), boxes)

    def test_more_axes(self):
        rng = random.Random(1)
        found = set()
        for many, longest, most, count in ((2, 3, 12, 130), (3, 2, 6, 80), (4, 2, 4, 50)):
            boxes = boxes_up_to(many, most)
            for _ in range(count):
                one = some_pair(rng, many, longest)
                other = rng.choice((some_pair(rng, many, longest), near_pair(one, rng)))
                if max(max(brick) for brick in one + other) <= most:
                    found.add(self.check(one, other, boxes))
                    found.add(self.check(other, one, boxes))
        self.assertEqual(found, {True, False})

    def test_great_sides(self):
        rng = random.Random(2)
        found = set()
        for _ in range(400):
            many = rng.randint(1, 4)
            one = some_pair(rng, many, rng.choice((10, 10 ** 6, MOST // 4)))
            other = rng.choice((near_pair(one, rng), near_pair(one, rng), some_pair(rng, many, MOST)))
            for pair, against in ((one, other), (other, one)):
                if max(max(brick) for brick in pair + against) <= MOST:
                    expected = plain_escape(pair, against)
                    told = call_quick(self, escape, pair, against)
                    self.assertEqual(repr_deep(told), repr_deep(expected), (pair, against))
                    self.assertIs(call_quick(self, within, pair, against), expected is None)
                    self.assertIs(call_quick(self, alike, pair, against),
                                  expected is None and plain_escape(against, pair) is None)
                    found.add(expected is None)
        self.assertEqual(found, {True, False})

    def test_the_first_brick_ahead_of_the_second_one(self):
        for one, other, expected in (
            (((5, 5), (7, 7)), P, (5, 5)), (((7, 7), (5, 5)), P, (7, 7)), (((4, 2), (7, 7)), P, (7, 7)),
            (((7, 7), (4, 2)), P, (7, 7)), (((1, 1), (1, 1)), P, (1, 1)), (((4, 2), (5, 6)), P, None),
            (((6, 5), (5, 6)), P, None), (((6, 5), (5, 7)), P, (5, 7)), (P, P, None), (P, P[::-1], None),
            (((MOST, MOST), (MOST, 3)), ((MOST, 1), (2, 2)), None), (((2,), (3,)), ((3,), (4,)), (2,)),
            (((3,), (5,)), ((3,), (4,)), (5,)), (((7,), (MOST,)), ((3,), (4,)), None),
            (((MOST,), (MOST - 1,)), ((2,), (4,)), (MOST - 1,)),
        ):
            self.assertEqual(repr_deep(call_unchanged(self, escape, one, other)), repr_deep(expected), (one, other))
            self.assertIs(within(one, other), expected is None)

    def test_boxes_that_need_both_bricks(self):
        # (5, 6) is filled by P with bricks of both kinds only.
        self.assertIs(within(((5, 6), (5, 6)), P), True)
        self.assertIs(within(((5, 6), (4, 5)), P), False)
        self.assertEqual(escape(((5, 6), (4, 5)), P), (4, 5))
        self.assertIs(alike(((5, 6), (2, 2)), P), False)
        self.assertIs(within(((5, 6, 1), (6, 5, 3)), ((2, 2, 1), (3, 3, 1))), True)

    def test_unlike_axes(self):
        pairs = {many: ((1,) * many, (2,) * many) for many in (1, 2, 3, 4)}
        for many, other in itertools.permutations((1, 2, 3, 4), 2):
            for function in (within, escape, alike):
                check_raises(self, UnlikeAxes, {}, function, pairs[many], pairs[other])
                check_raises(self, UnlikeAxes, {}, function, ((2,) * many,) * 2, ((1,) * other,) * 2)

    def test_alike(self):
        for one, other, right in (
            (P, P, True), (P, P[::-1], True), (((2, 2), (4, 2)), ((2, 2), (2, 2)), True),
            (((2, 2), (4, 2)), ((2, 2), (2, 4)), True), (((2, 2), (4, 2)), ((4, 2), (4, 2)), False),
            (((1, 1), (MOST, MOST)), ((7, 7), (1, 1)), True), (((2,), (3,)), ((2,), (5,)), False),
            (((2,), (4,)), ((2,), (MOST,)), True), (((2,), (4,)), ((4,), (4,)), False), (P, ((2, 2), (3, 6)), False),
            (((2, 2), (3, 6)), P, False),
        ):
            self.assertIs(call_unchanged(self, alike, one, other), right, (one, other))


class AtomsTest(unittest.TestCase):
    def plain_atoms(self, pair):
        one, other = pair
        left = {one, other}
        for brick, against in ((one, other), (other, one)):
            if brick != against and divides(against, brick):
                left.discard(brick)
        return tuple(sorted(left))

    def check(self, pair):
        told = call_unchanged(self, atoms, pair)
        self.assertEqual(repr_deep(told), repr_deep(self.plain_atoms(pair)), pair)
        self.assertEqual(repr_deep(atoms(pair[::-1])), repr_deep(told))
        self.assertIn(len(told), (1, 2))
        self.assertEqual(list(told), sorted(set(told)))

    def test_all_small_ones(self):
        for many, most in ((1, 12), (2, 5), (3, 3), (4, 2)):
            for one, other in itertools.product(boxes_up_to(many, most), repeat=2):
                self.check((one, other))

    def test_against_laying(self):
        for one, other in itertools.product(boxes_up_to(2, 4), repeat=2):
            expected = [brick for brick, against in ((one, other), (other, one))
                        if not is_plainly_filled((against,), brick)]
            self.assertEqual(atoms((one, other)), tuple(sorted(expected)) if one != other else (one,))

    def test_great_sides(self):
        rng = random.Random(3)
        for _ in range(300):
            many = rng.randint(1, 4)
            one = tuple(rng.randint(1, 10 ** 6) for _ in range(many))
            other = tuple(side * rng.choice((1, 2, rng.randint(1, 10 ** 6))) for side in one)
            self.check((one, other))
            self.check((one, one))
            self.check((put(one, rng.randrange(many), MOST - 1), other))
        self.assertEqual(atoms(((MOST,), (1,))), ((1,),))
        self.assertEqual(atoms(((MOST, 1), (1, MOST))), ((1, MOST), (MOST, 1)))
        self.assertEqual(atoms(((MOST, MOST), (MOST, MOST))), ((MOST, MOST),))


class MatesTest(unittest.TestCase):
    def check(self, brick, box):
        told = call_quick(self, mates, brick, box)
        expected = tuple(sides for sides in itertools.product(*[range(1, side + 1) for side in box])
                         if is_filled((brick, sides), box))
        self.assertEqual(repr_deep(told), repr_deep(expected), (brick, box))
        return told

    def test_small_boxes(self):
        rng = random.Random(4)
        for many, longest in ((1, 30), (2, 7), (3, 4), (4, 3)):
            for box in rng.sample(small_boxes(many, 30), 30):
                for _ in range(3):
                    brick = tuple(rng.randint(1, min(longest, side + 1)) for side in box)
                    self.assertEqual(repr_deep(call_unchanged(self, mates, brick, box)),
                                     repr_deep(self.check(brick, box)))

    def test_against_laying(self):
        for box in ((7,), (12,), (3, 4), (2, 2, 3), (1, 2, 2, 2)):
            for brick in itertools.product(*[range(1, side + 2) for side in box]):
                expected = tuple(sides for sides in itertools.product(*[range(1, side + 1) for side in box])
                                 if is_plainly_filled((brick, sides), box))
                self.assertEqual(mates(brick, box), expected, (brick, box))

    def test_great_boxes(self):
        for box in ((400,), (399,), (20, 20), (1, 400), (200, 2), (7, 57), (8, 5, 10), (7, 7, 8), (4, 5, 4, 5),
                    (1, 20, 1, 20), (3, 5, 5, 5)):
            ones = (1,) * len(box)
            every = tuple(itertools.product(*[range(1, side + 1) for side in box]))
            self.assertEqual(call_quick(self, mates, ones, box), every)
            self.assertEqual(call_quick(self, mates, box, box), every)
            self.check((2,) * len(box), box)
            self.check((3,) + ones[1:], box)
            # What is greater than the box is of no use.
            divisors = tuple(sides for sides in every if divides(sides, box))
            self.assertEqual(call_quick(self, mates, (MOST,) * len(box), box), divisors)
            self.assertEqual(self.check(put(box, 0, box[0] + 1), box), divisors)

    def test_one_axis(self):
        for side in range(1, 26):
            for length in range(1, side + 2):
                told = self.check((length,), (side,))
                for (other,) in told:
                    self.assertTrue(any((side - times * length) % other == 0
                                        for times in range(side // length + 1)))


if __name__ == "__main__":
    unittest.main()
