"""A2, A3, B2: counting the fillings of small boxes, and numbering them."""

import itertools
import random
import unittest

from tests.values import (
    ANY_VALUES, MOST, NO_INTEGERS, bent, call_quick, call_unchanged, check_names, check_raises, is_integer,
    plain_fillings, put, repr_deep, small_boxes,
)
from twobricks.counting import count_fillings, filling_at, filling_number, first_filling
from twobricks.errors import NoNumber
from twobricks.fillings import fill, filling_error
from twobricks.papers import is_filled

# Boxes of 20 cells or close to that many, with kinds by which they have very many fillings.
LINES = {1: ((1,), (2,)), 2: ((1, 1), (1, 2), (2, 1)), 3: ((1, 1, 1), (1, 1, 2), (1, 2, 1), (2, 1, 1))}
DOMINOES = {1: ((2,),), 2: ((1, 2), (2, 1)), 3: ((1, 1, 2), (1, 2, 1), (2, 1, 1)),
            4: ((1, 1, 1, 2), (1, 1, 2, 1), (1, 2, 1, 1), (2, 1, 1, 1))}
MANY = (
    (((1,),) * 4, (20,)), (((1, 1),) * 4, (4, 5)), (((1, 1, 1),) * 4, (2, 5, 2)), (((1, 1, 1, 1),) * 4, (1, 5, 2, 2)),
    (((1,), (2,), (3,), (4,)), (20,)), (((1, 1), (1, 2), (2, 1), (2, 2)), (4, 5)),
    (((1, 1), (1, 2), (2, 1), (2, 2)), (10, 2)), (((1, 1), (1, 2), (1, 3), (1, 4)), (4, 5)),
    (LINES[3], (2, 2, 5)), (LINES[3], (3, 3, 2)), (LINES[3], (5, 2, 2)), (((2, 1), (1, 1), (1, 3), (1, 1)), (5, 4)),
    (((1, 2, 1, 1), (1, 1, 1, 1), (2, 1, 1, 1), (1, 1, 1, 1)), (2, 2, 2, 2)),
)


def small_cases(count, most, seed):
    """Kinds, one to four of them and some alike, and boxes of at most so many cells; some with no filling."""
    rng = random.Random(seed)
    for many, longest in ((1, 6), (2, 4), (3, 3), (4, 3)):
        boxes = small_boxes(many, most)
        for _ in range(count):
            box = rng.choice(boxes)
            bricks = [tuple(rng.randint(1, min(side + 1, rng.randint(1, longest))) for side in box) for _ in range(4)]
            kinds = tuple(rng.choice(bricks[:rng.randint(1, 4)]) for _ in range(rng.randint(1, 4)))
            yield kinds, box


def few(kinds, box, most=1000):
    """All fillings, ascending; None if there are too many to go through."""
    found = list(itertools.islice(plain_fillings(kinds, box), most + 1))
    return sorted(found) if len(found) <= most else None


class DocumentTest(unittest.TestCase):
    def test_examples(self):
        self.assertEqual(
            [count_fillings(((1,), (2,)), (5,)), first_filling(((1,), (2,)), (3,)), filling_at(((1,), (2,)), (3,), 2),
             filling_number(((1,), (2,)), (3,), ((0, (2,)), (1, (0,)))), first_filling(((2,), (4,)), (3,))],
            [8, ((0, (0,)), (0, (1,)), (0, (2,))), ((0, (2,)), (1, (0,))), 2, None])
        with self.assertRaises(NoNumber) as held:
            filling_at(((2,), (4,)), (3,), 0)
        self.assertEqual(held.exception.number, 0)

    def test_by_name(self):
        for box in ((3,), (4,)):
            for function in (count_fillings, first_filling):
                check_names(self, function, kinds=((2,), (4,)), box=box)
        check_names(self, filling_at, kinds=((1,), (2,)), box=(3,), number=2)
        check_names(self, filling_number, kinds=((1,), (2,)), box=(3,), value=((0, (2,)), (1, (0,))))


class CountTest(unittest.TestCase):
    def check_all(self, kinds, box):
        found = few(kinds, box)
        if found is None:
            return
        many = call_unchanged(self, count_fillings, kinds, box)
        self.assertEqual(repr_deep(many), repr_deep(len(found)), (kinds, box))
        first = call_unchanged(self, first_filling, kinds, box)
        self.assertEqual(repr_deep(first), repr_deep(found[0] if found else None))
        step = max(1, len(found) // 9)
        for number in list(range(0, len(found), step)) + [len(found) - 1] * bool(found):
            told = call_unchanged(self, filling_at, kinds, box, number)
            self.assertEqual(repr_deep(told), repr_deep(found[number]), (kinds, box, number))
            told = call_unchanged(self, filling_number, kinds, box, found[number])
            self.assertEqual(repr_deep(told), repr_deep(number))
        for number in (-1, len(found)):
            check_raises(self, NoNumber, {"number": number}, filling_at, kinds, box, number)

    def test_small_boxes(self):
        for kinds, box in small_cases(250, most=12, seed=1):
            self.check_all(kinds, box)

    def test_every_number(self):
        for kinds, box in (
            (((1,), (2,)), (10,)), (((2,), (1,)), (10,)), (((1,), (1,), (1,)), (5,)), (((2,), (3,), (2,)), (12,)),
            (((2, 1), (1, 2)), (4, 4)), (((1, 2), (2, 1)), (3, 4)), (((1, 1), (2, 2)), (4, 3)),
            (((2, 2), (1, 1), (1, 3)), (3, 4)), (((1, 2, 1), (2, 1, 1)), (2, 2, 3)), (DOMINOES[3], (3, 2, 2)),
            (DOMINOES[4], (2, 2, 2, 1)), (((1, 1, 2, 2), (2, 1, 1, 1), (1, 2, 1, 1)), (2, 2, 1, 2)),
        ):
            found = few(kinds, box)
            self.assertEqual(count_fillings(kinds, box), len(found))
            for number, filling in enumerate(found):
                self.assertEqual(filling_at(kinds, box, number), filling)
                self.assertEqual(filling_number(kinds, box, filling), number)

    def test_known_counts(self):
        for kinds, box, many in (
            (((1,), (2,)), (20,), 10946), (((1,),) * 4, (20,), 4 ** 20), (((1,), (1,), (2,)), (20,), 38613965),
            (((1, 1),) * 4, (4, 5), 4 ** 20), (((2,), (2,)), (20,), 1024), (((2,), (4,)), (19,), 0),
            (DOMINOES[2], (2, 10), 89), (DOMINOES[2], (10, 2), 89), (DOMINOES[2], (4, 4), 36),
            (DOMINOES[2], (4, 5), 95), (DOMINOES[2], (3, 6), 41), (DOMINOES[2], (3, 5), 0),
            (DOMINOES[3], (2, 2, 2), 9), (DOMINOES[3], (2, 2, 4), 121), (DOMINOES[3], (5, 2, 2), 450),
            (DOMINOES[3], (2, 3, 3), 229), (DOMINOES[4], (2, 2, 2, 2), 272),
            (LINES[2], (4, 4), 10012), (LINES[3], (2, 2, 2), 108), (((20,),) * 4, (20,), 4),
            (((1, 1), (2, 2)), (2, 10), 89), (((3, 1), (1, 3)), (3, 6), 6), (((MOST,),), (20,), 0),
            (((4, 5), (2, 5), (4, 5), (MOST, 1)), (4, 5), 3),
        ):
            self.assertEqual(repr_deep(call_quick(self, count_fillings, kinds, box)), repr_deep(many), (kinds, box))

    def test_filled_or_not(self):
        for kinds, box in small_cases(200, most=20, seed=2):
            pair = (kinds[0], kinds[-1])
            self.assertEqual(count_fillings(pair, box) > 0, is_filled(pair, box))
            self.assertEqual(first_filling(pair, box) is not None, is_filled(pair, box))
            if is_filled(pair, box):
                number = filling_number(pair, box, fill(pair, box))
                self.assertEqual(filling_at(pair, box, number), fill(pair, box))


class NumberTest(unittest.TestCase):
    def test_very_many(self):
        rng = random.Random(3)
        for kinds, box in MANY:
            many = call_quick(self, count_fillings, kinds, box)
            numbers = {0, 1, many // 2, many - 2, many - 1} | {rng.randrange(many) for _ in range(15)}
            last = None
            for number in sorted(numbers):
                filling = call_quick(self, filling_at, kinds, box, number)
                self.assertIsNone(filling_error(kinds, box, filling))
                self.assertEqual(call_quick(self, filling_number, kinds, box, filling), number)
                self.assertTrue(last is None or last < filling)
                last = filling
            self.assertEqual(call_quick(self, first_filling, kinds, box), filling_at(kinds, box, 0))
            for number in (-1, many, many + 1, -many, 10 ** 30):
                check_raises(self, NoNumber, {"number": number}, filling_at, kinds, box, number)

    def test_neighbours(self):
        # With bricks of one cell only the numbers are those of a counter whose digits are the kinds.
        kinds, box = ((1,),) * 4, (20,)
        for number in (0, 1, 4 ** 10, 4 ** 19, 4 ** 20 - 1, 4 ** 20 // 3):
            filling = filling_at(kinds, box, number)
            self.assertEqual(filling_number(kinds, box, filling), number)
        self.assertEqual(filling_at(kinds, box, 0), tuple((0, (k,)) for k in range(20)))
        self.assertEqual(filling_at(kinds, box, 1), tuple((0, (k,)) for k in range(19)) + ((1, (19,)),))
        self.assertEqual(filling_at(kinds, box, 4 ** 20 - 1), tuple((3, (k,)) for k in range(20)))
        self.assertEqual(filling_at(kinds, box, 4 ** 20 - 2), ((2, (19,)),) + tuple((3, (k,)) for k in range(19)))

    def test_no_numbers(self):
        for value in NO_INTEGERS + ANY_VALUES + (-1, 8, 10 ** 30, -10 ** 30):
            if not is_integer(value) or value not in range(8):
                check_raises(self, NoNumber, {"number": value}, filling_at, ((1,), (2,)), (5,), value)
            check_raises(self, NoNumber, {"number": value}, filling_at, ((2,), (4,)), (5,), value)

    def test_no_fillings(self):
        for kinds, box in ((((1,), (2,)), (4,)), (((1, 2), (2, 1), (1, 2)), (2, 2)), (((1, 1, 2),), (1, 1, 2))):
            known = {repr_deep(filling) for filling in plain_fillings(kinds, box)}
            for filling in few(kinds, box):
                for value in bent(filling):
                    if repr_deep(value) not in known:
                        self.assertIsNone(call_unchanged(self, filling_number, kinds, box, value), value)
                self.assertIsNone(filling_number(kinds, put(box, 0, box[0] + 1), filling))
            for value in ANY_VALUES + NO_INTEGERS:
                for other in (value, (value,), few(kinds, box)[0] + (value,)):
                    self.assertIsNone(call_unchanged(self, filling_number, kinds, box, other))


if __name__ == "__main__":
    unittest.main()
