"""A3, A4, A5: sides, kinds, pairs, boxes, cells and volumes."""

import itertools
import unittest

from tests.values import MOST, NO_SIDES, NO_TUPLES, call_unchanged, put
from twobricks.forms import box_error, is_cell, kinds_error, pair_error, sides_error, volume

RIGHT_SIDES = tuple(
    sides for many in (1, 2, 3, 4) for sides in itertools.product((1, 7, MOST), repeat=many)
)

# For each dimension some sides, two of them alike.
SOME_SIDES = {
    many: ((1,) * many, (MOST,) * many, (2, 3, 5, 7)[:many], (MOST, 1, 1, 2)[:many], (1,) * many)
    for many in (1, 2, 3, 4)
}

RIGHT_KINDS = tuple(
    kinds for many in (1, 2, 3, 4) for count in (1, 2, 3, 4)
    for kinds in itertools.product(SOME_SIDES[many], repeat=count)
)

# Tuples that are no sides, whose length is wrong.
WRONG_LENGTHS = ((), (1,) * 5, (1, 2, 3, 4, 0), ((),) * 5, (1,) * 400)


class DocumentTest(unittest.TestCase):
    def test_examples(self):
        P = ((2, 2), (3, 3))
        self.assertEqual(
            [sides_error((5, 6)), sides_error((5, 0)), sides_error(()), kinds_error(P + ((1,),)), pair_error(P + P),
             box_error(P, (5,)), is_cell((5, 6), (4, 5)), is_cell((5, 6), (5, 0)), volume((5, 6))],
            [None, (1, 'side'), (None, 'sides'), (2, 'axes'), (None, 'pair'), (None, 'axes'), True, False, 30])

    def test_by_name(self):
        P = ((2, 2), (3, 3))
        self.assertEqual(sides_error(value=(5, 0)), (1, "side"))
        self.assertEqual(kinds_error(value=P + ((1,),)), (2, "axes"))
        self.assertEqual(pair_error(value=P + P), (None, "pair"))
        self.assertEqual(box_error(value=(5,), kinds=P), (None, "axes"))
        self.assertIs(is_cell(value=(4, 5), box=(5, 6)), True)
        self.assertEqual(volume(sides=(5, 6)), 30)


class SidesTest(unittest.TestCase):
    def told(self, value):
        return call_unchanged(self, sides_error, value)

    def test_right(self):
        for sides in RIGHT_SIDES:
            self.assertIsNone(self.told(sides))

    def test_no_tuple(self):
        for value in NO_TUPLES:
            self.assertEqual(self.told(value), (None, "sides"), value)

    def test_wrong_length(self):
        for value in WRONG_LENGTHS:
            self.assertEqual(self.told(value), (None, "sides"), value)

    def test_one_side_wrong(self):
        for sides in RIGHT_SIDES:
            for axis in range(len(sides)):
                for wrong in NO_SIDES:
                    self.assertEqual(self.told(put(sides, axis, wrong)), (axis, "side"))

    def test_first_of_several(self):
        self.assertEqual(self.told((1, 0, True, None)), (1, "side"))
        self.assertEqual(self.told((1, 2, MOST + 1, -1)), (2, "side"))
        self.assertEqual(self.told(("1", [], 0, -1)), (0, "side"))
        self.assertEqual(self.told((0, 0, 0, 0, 0)), (None, "sides"))


class KindsTest(unittest.TestCase):
    def told(self, value):
        return call_unchanged(self, kinds_error, value)

    def test_right(self):
        for kinds in RIGHT_KINDS:
            self.assertIsNone(self.told(kinds))

    def test_no_tuple(self):
        for value in NO_TUPLES:
            self.assertEqual(self.told(value), (None, "kinds"), value)

    def test_wrong_length(self):
        for value in ((), ((1,),) * 5, ((2, 2),) * 4 + (0,), (0,) * 5, ((1,),) * 100):
            self.assertEqual(self.told(value), (None, "kinds"), value)

    def test_sides_instead_of_kinds(self):
        for sides in RIGHT_SIDES:
            self.assertEqual(self.told(sides), (0, "sides"))

    def test_one_kind_wrong(self):
        wrongs = NO_TUPLES + WRONG_LENGTHS + ((0,), (1, 0), (1, 2, True), (1, 2, 3, MOST + 1), (None,), ((1,), (2,)))
        for many, count in itertools.product((1, 2, 3, 4), repeat=2):
            kinds = SOME_SIDES[many][:count]
            for kind in range(count):
                for wrong in wrongs:
                    self.assertEqual(self.told(put(kinds, kind, wrong)), (kind, "sides"), wrong)

    def test_one_side_wrong(self):
        for many, count in itertools.product((1, 2, 3, 4), repeat=2):
            kinds = SOME_SIDES[many][:count]
            for kind, axis in itertools.product(range(count), range(many)):
                for wrong in NO_SIDES:
                    self.assertEqual(self.told(put(kinds, kind, put(kinds[kind], axis, wrong))), (kind, "sides"))

    def test_another_dimension(self):
        for many, other in itertools.permutations((1, 2, 3, 4), 2):
            for count in (2, 3, 4):
                kinds = SOME_SIDES[many][:count]
                for kind in range(1, count):
                    self.assertEqual(self.told(put(kinds, kind, SOME_SIDES[other][0])), (kind, "axes"))
                # The first kind sets the dimension, so the second one is told if the first one is unlike the others.
                self.assertEqual(self.told(put(kinds, 0, SOME_SIDES[other][0])), (1, "axes"))

    def test_first_of_several(self):
        self.assertEqual(self.told(((2, 2), (3,), (0, 0))), (1, "axes"))
        self.assertEqual(self.told(((2, 2), (0, 0), (3,))), (1, "sides"))
        self.assertEqual(self.told(((2, 2), (0,))), (1, "sides"))
        self.assertEqual(self.told(((2, 2), (1, 1, 1, 1, 1), None)), (1, "sides"))
        self.assertEqual(self.told(((0, 2), (3,), "x")), (0, "sides"))
        self.assertEqual(self.told(((2, 2), (3, 3), (1, 1, 1), [1, 1])), (2, "axes"))
        self.assertEqual(self.told((None, None, None, None, None)), (None, "kinds"))


class PairTest(unittest.TestCase):
    def told(self, value):
        return call_unchanged(self, pair_error, value)

    def test_right_kinds(self):
        for kinds in RIGHT_KINDS:
            self.assertEqual(self.told(kinds), None if len(kinds) == 2 else (None, "pair"))

    def test_no_kinds(self):
        for value in NO_TUPLES + ((), ((1,),) * 5, (None,) * 5):
            self.assertEqual(self.told(value), (None, "kinds"), value)

    def test_wrong_items(self):
        for wrong in NO_TUPLES + WRONG_LENGTHS + ((0,), (1, True), (MOST + 1, 1)):
            self.assertEqual(self.told((wrong, (3, 3))), (0, "sides"))
            self.assertEqual(self.told(((2, 2), wrong)), (1, "sides"))
        for wrong in NO_SIDES:
            self.assertEqual(self.told(((2, 2), (3, wrong))), (1, "sides"))
            self.assertEqual(self.told(((wrong, 2), (3, wrong))), (0, "sides"))
        for other in (1, 3, 4):
            self.assertEqual(self.told(((2, 2), SOME_SIDES[other][0])), (1, "axes"))

    def test_kinds_error_comes_first(self):
        self.assertEqual(self.told(((2, 2), (3, 3), (1,))), (2, "axes"))
        self.assertEqual(self.told(((2, 2), (3, 3), (1, 0))), (2, "sides"))
        self.assertEqual(self.told(((0, 2),)), (0, "sides"))


class BoxTest(unittest.TestCase):
    def told(self, kinds, value):
        return call_unchanged(self, box_error, kinds, value)

    def test_right_sides(self):
        for many, count in itertools.product((1, 2, 3, 4), repeat=2):
            kinds = SOME_SIDES[many][:count]
            for box in RIGHT_SIDES:
                self.assertEqual(self.told(kinds, box), None if len(box) == many else (None, "axes"))

    def test_no_sides(self):
        for kinds in (((2,),), ((2, 2), (3, 3)), ((1, 2, 3, 4),) * 4):
            for value in NO_TUPLES + WRONG_LENGTHS:
                self.assertEqual(self.told(kinds, value), (None, "sides"), value)

    def test_one_side_wrong(self):
        for kinds in (((2,),), ((2, 2), (3, 3)), ((1, 2, 3, 4),) * 4):
            for box in RIGHT_SIDES:
                for axis, wrong in itertools.product(range(len(box)), NO_SIDES):
                    self.assertEqual(self.told(kinds, put(box, axis, wrong)), (axis, "side"))

    def test_first_of_several(self):
        self.assertEqual(self.told(((2, 2), (3, 3)), (1, 2, 0)), (2, "side"))
        self.assertEqual(self.told(((2, 2), (3, 3)), (True, 0)), (0, "side"))


class CellTest(unittest.TestCase):
    def told(self, box, value):
        told = call_unchanged(self, is_cell, box, value)
        self.assertIs(told.__class__, bool)
        return told

    def test_all_near_small_boxes(self):
        for box in ((1,), (3,), (1, 1), (2, 3), (3, 1, 2), (1, 2, 1, 2)):
            for value in itertools.product(range(-2, 5), repeat=len(box)):
                right = all(number in range(side) for number, side in zip(value, box))
                self.assertEqual(self.told(box, value), right, (box, value))

    def test_both_ends_and_beyond(self):
        for box in RIGHT_SIDES:
            first = (0,) * len(box)
            last = tuple(side - 1 for side in box)
            self.assertTrue(self.told(box, first))
            self.assertTrue(self.told(box, last))
            for axis, side in enumerate(box):
                for wrong in (-1, side, side + 1, 10 ** 30, -10 ** 30):
                    self.assertFalse(self.told(box, put(first, axis, wrong)))
                    self.assertFalse(self.told(box, put(last, axis, wrong)))

    def test_no_integers(self):
        for box in ((2,), (5, 6), (2, 2, 2), (MOST,) * 4):
            for axis in range(len(box)):
                for wrong in (True, False, None, "0", "", [], [0], (), (0,), {}):
                    self.assertFalse(self.told(box, put((0,) * len(box), axis, wrong)), wrong)

    def test_another_dimension(self):
        for many in (1, 2, 3, 4):
            for other in (0, 1, 2, 3, 4, 5, 400):
                self.assertEqual(self.told((5,) * many, (0,) * other), many == other)

    def test_no_tuples(self):
        for box in ((2,), (5, 6), (2, 2, 2)):
            for value in NO_TUPLES + ([0], [0, 0], [0, 0, 0], {0: 0}, "0", "00"):
                self.assertFalse(self.told(box, value), value)


class VolumeTest(unittest.TestCase):
    def told(self, sides):
        told = call_unchanged(self, volume, sides)
        self.assertIs(told.__class__, int)
        return told

    def test_small(self):
        for sides in itertools.product((1, 2, 5), repeat=4):
            for many in (1, 2, 3, 4):
                cells = list(itertools.product(*[range(side) for side in sides[:many]]))
                self.assertEqual(self.told(sides[:many]), len(cells))

    def test_great(self):
        self.assertEqual(self.told((MOST,)), 10 ** 12)
        self.assertEqual(self.told((MOST, MOST)), 10 ** 24)
        self.assertEqual(self.told((MOST,) * 4), 10 ** 48)
        self.assertEqual(self.told((MOST, MOST - 1, 1, 3)), 3 * 10 ** 24 - 3 * 10 ** 12)


if __name__ == "__main__":
    unittest.main()
