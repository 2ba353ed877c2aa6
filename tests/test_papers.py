"""A2, A3, C1, C2, C3, C4: cuts, and papers that say whether a box is filled."""

import itertools
import math
import random
import unittest

from tests.values import (
    ANY_VALUES, MOST, NO_INTEGERS, bent, call_quick, call_unchanged, check_names, check_raises, is_integer,
    is_plainly_filled, plain_fillings, put, repr_deep, small_boxes,
)
from twobricks.errors import NoNumber
from twobricks.papers import (
    bar_papers, count_cuts, cut_at, cut_number, is_filled, most_of, needed, paper, paper_holds,
)

P = ((2, 2), (3, 3))


def small_pairs(many, most, count, rng):
    """Pairs with sides up to most, all of them if they are not more than count, some with both bricks alike."""
    bricks = list(itertools.product(range(1, most + 1), repeat=many))
    if len(bricks) ** 2 <= count:
        return list(itertools.product(bricks, repeat=2))
    alike = [(brick, brick) for brick in rng.sample(bricks, min(len(bricks), count // 10))]
    return alike + [(rng.choice(bricks), rng.choice(bricks)) for _ in range(count)]


def small_cases(count, seed, most_cells=18):
    """Pairs and boxes of each dimension; so many of each at most."""
    rng = random.Random(seed)
    for many, most in ((1, 8), (2, 5), (3, 4), (4, 3)):
        boxes = small_boxes(many, most_cells)
        cases = list(itertools.product(small_pairs(many, most, 200, rng), boxes))
        yield from cases if len(cases) <= count else rng.sample(cases, count)


def divides_all(brick, sides):
    return 0 in sides or all(side % length == 0 for length, side in zip(brick, sides))


def is_plain_cut(pair, box, first, axis, at):
    low, high = put(box, axis, at), put(box, axis, box[axis] - at)
    return divides_all(pair[first], low) and divides_all(pair[1 - first], high)


def plain_cuts(pair, box):
    """All cuts, ascending, found by trying all triples."""
    return [(first, axis, at) for first in (0, 1) for axis in range(len(box)) for at in range(box[axis] + 1)
            if is_plain_cut(pair, box, first, axis, at)]


def plain_bars(pair, box):
    """All papers that are no cuts, found by trying all tuples."""
    one, other = pair
    found = []
    for i, j in itertools.permutations(range(len(box)), 2):
        if box[i] % one[i] and box[j] % other[j]:
            found.append(("sides", i, j))
    for axis, (a, b, side) in enumerate(zip(one, other, box)):
        divisor = math.gcd(a, b)
        if side % divisor:
            found.append(("step", axis))
        found.extend(("gap", axis, x, y) for x in range(b // divisor) for y in range(1, x * a // b + 1)
                     if x * a - y * b == side)
    return sorted(found)


def wrong_words(many):
    """Tuples that begin with any word, with numbers around all that papers may have."""
    numbers = range(-1, many + 2)
    for word in ("cut", "sides", "step", "gap", "Cut", "", "bar", 0, None):
        for length in range(3):
            for rest in itertools.product(numbers, repeat=length):
                yield (word,) + rest


class DocumentTest(unittest.TestCase):
    def test_papers(self):
        self.assertEqual(
            [is_filled(P, (5, 6)), is_filled(P, (5, 5)), paper(P, (1, 6)), paper_holds(P, (5, 6), ("cut", 0, 0, 2)),
             paper_holds(P, (5, 6), ("cut", 0, 1, 2)), paper_holds(P, (5, 5), ("gap", 0, 1, -1))],
            [True, False, ('gap', 0, 2, 1), True, False, False])
        self.assertEqual(
            [bar_papers(P, (5, 5)), bar_papers(((2, 2), (4, 4)), (3, 4)), bar_papers(P, (1, 1)),
             bar_papers(P, (5, 6))],
            [(('sides', 0, 1), ('sides', 1, 0)), (('step', 0),),
             (('gap', 0, 2, 1), ('gap', 1, 2, 1), ('sides', 0, 1), ('sides', 1, 0)), ()])

    def test_cuts(self):
        self.assertEqual(
            [count_cuts(P, (5, 6)), cut_at(P, (5, 6), 1), count_cuts(P, (6, 6)), cut_at(P, (6, 6), 1),
             cut_number(P, (6, 6), (1, 0, 6)), cut_number(P, (5, 6), (0, 0, 3)),
             count_cuts(((2,), (3,)), (10 ** 12,))],
            [2, (1, 0, 3), 8, (0, 0, 6), 5, None, 333333333334])

    def test_needed(self):
        self.assertEqual(
            [needed(P, (5, 6)), needed(P, (6, 6)), needed(P, (4, 2)), needed(P, (5, 5)), most_of(P, (5, 6), 0),
             most_of(P, (6, 6), 1), most_of(P, (7, 6), 0), most_of(P, (1, 1), 0)],
            [(0, 1), (), (0,), None, 12, 36, 24, None])

    def test_by_name(self):
        for box in ((5, 6), (5, 5), (6, 6)):
            for function in (is_filled, paper, bar_papers, count_cuts, needed):
                check_names(self, function, pair=P, box=box)
            check_names(self, most_of, pair=P, box=box, kind=1)
        check_names(self, cut_at, pair=P, box=(6, 6), number=3)
        check_names(self, cut_number, pair=P, box=(6, 6), value=(1, 0, 6))
        check_names(self, paper_holds, pair=P, box=(5, 6), value=("cut", 0, 0, 2))


class FilledTest(unittest.TestCase):
    def check(self, pair, box):
        filled = call_unchanged(self, is_filled, pair, box)
        self.assertIs(filled, is_plainly_filled(pair, box), (pair, box))

    def test_one_axis(self):
        for a, b in itertools.product((1, 2, 3, 4, 5, 7, 9, 10, 18, 19, MOST), repeat=2):
            for side in range(1, 19):
                self.check(((a,), (b,)), (side,))

    def test_more_axes(self):
        for pair, box in small_cases(6000, seed=1):
            self.check(pair, box)

    def test_bricks_greater_than_the_box(self):
        for box in ((2, 3), (3, 1, 2), (2, 2, 1, 2)):
            for axis in range(len(box)):
                for long in (box[axis] + 1, 2 * box[axis], MOST):
                    brick = put(box, axis, long)
                    self.check((brick, brick), box)
                    self.check((brick, (1,) * len(box)), box)
                    self.check(((1,) * len(box), brick), box)
                    self.check((brick, (2,) * len(box)), box)

    def test_parts_that_are_filled_by_one_kind(self):
        # What a cut is, by laying only, without a look at what divides what.
        for pair, box in small_cases(150, seed=2, most_cells=12):
            found = []
            for first, axis in itertools.product((0, 1), range(len(box))):
                for at in range(box[axis] + 1):
                    parts = ((pair[first], put(box, axis, at)), (pair[1 - first], put(box, axis, box[axis] - at)))
                    if all(0 in sides or is_plainly_filled((brick,), sides) for brick, sides in parts):
                        found.append((first, axis, at))
            self.assertEqual([cut_at(pair, box, number) for number in range(count_cuts(pair, box))], found)


class PaperTest(unittest.TestCase):
    def check_paper(self, pair, box):
        told = call_unchanged(self, paper, pair, box)
        self.assertIs(told.__class__, tuple)
        self.assertIs(paper_holds(pair, box, told), True, (pair, box))
        self.assertEqual(told[0] == "cut", is_filled(pair, box))
        self.assertEqual(is_filled(pair, box), count_cuts(pair, box) > 0)
        self.assertEqual(is_filled(pair, box), bar_papers(pair, box) == ())

    def test_paper(self):
        for pair, box in small_cases(2500, seed=3):
            self.check_paper(pair, box)
            right = [("cut",) + cut for cut in plain_cuts(pair, box)] + plain_bars(pair, box)
            self.assertIn(repr_deep(paper(pair, box)), [repr_deep(one) for one in right])

    def test_bar_papers(self):
        rng = random.Random(4)
        for _ in range(1500):
            many = rng.randint(1, 4)
            pair = tuple(tuple(rng.randint(1, 30) for _ in range(many)) for _ in range(2))
            box = tuple(rng.randint(1, 60) for _ in range(many))
            told = call_unchanged(self, bar_papers, pair, box)
            self.assertEqual(repr_deep(told), repr_deep(tuple(plain_bars(pair, box))), (pair, box))
            self.check_paper(pair, box)

    def test_bar_papers_along_one_axis(self):
        for a, b, side in itertools.product(range(1, 13), range(1, 13), range(1, 41)):
            self.assertEqual(bar_papers(((a,), (b,)), (side,)), tuple(plain_bars(((a,), (b,)), (side,))))

    def test_bar_papers_of_great_sides(self):
        rng = random.Random(5)
        for _ in range(300):
            many, axis = rng.choice(((1, 0), (2, 0), (2, 1), (3, 1), (4, 3)))
            pair = [[rng.randint(1, MOST) for _ in range(many)] for _ in range(2)]
            box = [rng.randint(1, MOST) for _ in range(many)]
            divisor = rng.choice((1, 1, 2, 6, 1000, 10 ** 6))
            a, b = rng.randint(1, MOST // divisor) * divisor, rng.randint(1, MOST // divisor) * divisor
            x = rng.randrange(1, max(2, b // math.gcd(a, b)))
            y = max(1, x * a // b - rng.choice((0, 0, 1, 2)))
            if x >= b // math.gcd(a, b) or not 1 <= x * a - y * b <= MOST:
                continue
            pair[0][axis], pair[1][axis], box[axis] = a, b, x * a - y * b
            pair, box = tuple(map(tuple, pair)), tuple(box)
            told = call_quick(self, bar_papers, pair, box)
            self.assertIn(("gap", axis, x, y), told)
            self.assertEqual([one for one in told if one[:2] == ("gap", axis)], [("gap", axis, x, y)])
            self.check_great(pair, box, told)

    def check_great(self, pair, box, told):
        """Checks all but the gaps of a great box for completeness, and the gaps by what they say."""
        one, other = pair
        expected = [("sides", i, j) for i, j in itertools.permutations(range(len(box)), 2)
                    if box[i] % one[i] and box[j] % other[j]]
        expected += [("step", k) for k in range(len(box)) if box[k] % math.gcd(one[k], other[k])]
        self.assertEqual([paper for paper in told if paper[0] != "gap"], expected)
        self.assertEqual(list(told), sorted(told))
        for _, axis, x, y in [paper for paper in told if paper[0] == "gap"]:
            self.assertEqual(x * one[axis] - y * other[axis], box[axis])
            self.assertIn(x, range(other[axis] // math.gcd(one[axis], other[axis])))
            self.assertGreaterEqual(y, 1)
        for paper in told:
            self.assertIs(paper_holds(pair, box, paper), True)

    def test_great_boxes_that_are_filled(self):
        rng = random.Random(6)
        for _ in range(300):
            many, first = rng.randint(1, 4), rng.randint(0, 1)
            pair = tuple(tuple(rng.randint(1, 1000) for _ in range(many)) for _ in range(2))
            box = tuple(math.lcm(a, b) * rng.randint(1, 10 ** 6) for a, b in zip(*pair))
            axis = rng.randrange(many)
            at = rng.choice((0, rng.randint(1, 10 ** 8))) * pair[first][axis]
            rest = rng.choice((0, rng.randint(1, 10 ** 8))) * pair[1 - first][axis]
            if at + rest == 0:
                continue
            box = put(box, axis, at + rest)
            self.assertIs(call_quick(self, is_filled, pair, box), True)
            self.assertIs(paper_holds(pair, box, ("cut", first, axis, at)), True)
            self.check_paper(pair, box)

    def test_great_boxes(self):
        rng = random.Random(7)
        for _ in range(500):
            many = rng.randint(1, 4)
            longest = rng.choice((3, 100, 10 ** 6, MOST))
            pair = tuple(tuple(rng.randint(1, longest) for _ in range(many)) for _ in range(2))
            box = tuple(rng.choice((rng.randint(1, MOST), MOST, 1)) for _ in range(many))
            self.check_paper(pair, box)
            self.check_great(pair, box, bar_papers(pair, box))


class PaperHoldsTest(unittest.TestCase):
    def check(self, pair, box, value, right):
        told = call_unchanged(self, paper_holds, pair, box, value)
        self.assertIs(told, repr_deep(value) in right, (pair, box, repr_deep(value)))

    def all_right(self, pair, box):
        return [("cut",) + cut for cut in plain_cuts(pair, box)] + plain_bars(pair, box)

    def test_all_right_ones(self):
        for pair, box in small_cases(400, seed=8):
            for value in self.all_right(pair, box):
                self.assertIs(paper_holds(pair, box, value), True, (pair, box, value))

    def test_cuts_at_both_ends(self):
        for many in (1, 2, 3, 4):
            box = (6, 4, 10, 8)[:many]
            for first, axis in itertools.product((0, 1), range(many)):
                for at, kind in ((0, 1 - first), (box[axis], first)):
                    pair = put((box, box), kind, (2,) * many)
                    self.assertIs(paper_holds(pair, box, ("cut", first, axis, at)), True)
                    pair = put(((MOST,) * many,) * 2, kind, (2,) * many)
                    self.assertIs(paper_holds(pair, box, ("cut", first, axis, at)), True)
                    self.assertIs(paper_holds(pair, box, ("cut", 1 - first, axis, at)), False)
                    self.assertIs(paper_holds(pair, box, ("cut", first, axis, box[axis] - at)), False)

    def test_one_part_otherwise(self):
        for pair, box in small_cases(25, seed=9):
            right = self.all_right(pair, box)
            known = {repr_deep(value) for value in right}
            for value in right[:6] + right[-6:]:
                for other in bent(value):
                    self.check(pair, box, other, known)

    def test_all_near(self):
        for pair, box in small_cases(15, seed=10):
            known = {repr_deep(value) for value in self.all_right(pair, box)}
            for value in wrong_words(len(box)):
                self.check(pair, box, value, known)
            for first, axis in itertools.product(range(-2, 3), range(-2, len(box) + 1)):
                for at in range(-2, max(box) + 3):
                    self.check(pair, box, ("cut", first, axis, at), known)

    def test_all_gaps_near(self):
        for a, b, side in ((2, 3, 1), (3, 5, 7), (3, 5, 4), (4, 6, 2), (4, 6, 8), (5, 5, 5), (6, 4, 2), (7, 1, 3)):
            pair, box = ((a,), (b,)), (side,)
            known = {repr_deep(value) for value in self.all_right(pair, box)}
            for x, y in itertools.product(range(-12, 13), repeat=2):
                self.check(pair, box, ("gap", 0, x, y), known)
                self.check(pair, box, ("gap", -1, x, y), known)

    def test_sides_along_one_axis(self):
        self.assertIs(paper_holds(P, (5, 5), ("sides", 1, 0)), True)
        for value in (("sides", 0, 0), ("sides", 1, 1), ("sides", -1, 0), ("sides", 0, 2), ("sides", 0, -1)):
            self.assertIs(paper_holds(P, (5, 5), value), False)

    def test_true_and_false(self):
        for pair, box, value in (
            (P, (5, 6), ("cut", 1, 0, 3)), (P, (5, 6), ("cut", 0, 0, 2)), (P, (5, 5), ("sides", 0, 1)),
            (P, (1, 1), ("gap", 0, 2, 1)), (P, (1, 1), ("gap", 1, 2, 1)), (((2, 2), (4, 4)), (3, 4), ("step", 0)),
            (((1,), (1,)), (1,), ("cut", 0, 0, 1)),
        ):
            self.assertIs(paper_holds(pair, box, value), True)
            for at, item in enumerate(value):
                if item in (0, 1):
                    self.assertIs(paper_holds(pair, box, put(value, at, bool(item))), False)

    def test_values_of_any_kind(self):
        for pair, box in ((P, (5, 6)), (P, (5, 5)), (((1,), (1,)), (1,)), (((2,), (4,)), (3,))):
            for value in ANY_VALUES + NO_INTEGERS:
                self.assertIs(call_unchanged(self, paper_holds, pair, box, value), value == ("gap", 0, 2, 1)
                              and plain_bars(pair, box).count(value) == 1)
                for word in () if is_integer(value) else ("cut", "sides", "step", "gap"):
                    self.assertIs(call_unchanged(self, paper_holds, pair, box, (word, value)), False)
                    self.assertIs(call_unchanged(self, paper_holds, pair, box, (word, value, 0, 1)), False)

    def test_none_that_is_a_cut_and_one_that_is_not(self):
        for pair, box in small_cases(300, seed=11):
            self.assertFalse(plain_cuts(pair, box) and plain_bars(pair, box))
            self.assertTrue(plain_cuts(pair, box) or plain_bars(pair, box))


class CutsTest(unittest.TestCase):
    def check_no_cut(self, pair, box, value):
        self.assertIsNone(call_unchanged(self, cut_number, pair, box, value), repr_deep(value))

    def check_no_number(self, pair, box, number):
        check_raises(self, NoNumber, {"number": number}, cut_at, pair, box, number)

    def test_all_of_small_boxes(self):
        for pair, box in small_cases(800, seed=12, most_cells=40):
            cuts = plain_cuts(pair, box)
            many = call_unchanged(self, count_cuts, pair, box)
            self.assertEqual(repr_deep(many), repr_deep(len(cuts)), (pair, box))
            for number, cut in enumerate(cuts):
                self.assertEqual(repr_deep(call_unchanged(self, cut_at, pair, box, number)), repr_deep(cut))
                self.assertEqual(repr_deep(call_unchanged(self, cut_number, pair, box, cut)), repr_deep(number))
            for number in (-1, len(cuts), len(cuts) + 1, -len(cuts) - 1):
                self.check_no_number(pair, box, number)

    def test_all_along_one_axis(self):
        for a, b, side in itertools.product(range(1, 10), range(1, 10), range(1, 31)):
            cuts = plain_cuts(((a,), (b,)), (side,))
            self.assertEqual(count_cuts(((a,), (b,)), (side,)), len(cuts))
            for number, cut in enumerate(cuts):
                self.assertEqual(cut_at(((a,), (b,)), (side,), number), cut)
                self.assertEqual(cut_number(((a,), (b,)), (side,), cut), number)

    def test_no_cuts(self):
        for pair, box in small_cases(60, seed=13):
            cuts = plain_cuts(pair, box)
            known = {repr_deep(cut) for cut in cuts}
            for cut in cuts[:4] + cuts[-4:]:
                for value in bent(cut):
                    if repr_deep(value) not in known:
                        self.check_no_cut(pair, box, value)
            for first, axis in itertools.product(range(-2, 3), range(-2, len(box) + 1)):
                for at in range(-1, max(box) + 2):
                    if repr_deep((first, axis, at)) not in known:
                        self.check_no_cut(pair, box, (first, axis, at))

    def test_values_of_any_kind(self):
        for value in ANY_VALUES + NO_INTEGERS + (("cut", 0, 0, 2), (0, 0), (0, 0, 2, 0), [0, 0, 2]):
            for pair, box in ((P, (5, 6)), (P, (5, 5))):
                self.check_no_cut(pair, box, value)
                for cut in ((value, 0, 2), (0, value, 2), (0, 0, value)):
                    if not is_integer(value):
                        self.check_no_cut(pair, box, cut)

    def test_no_numbers(self):
        for value in NO_INTEGERS + ANY_VALUES + (-1, 10 ** 30, -10 ** 30, 10 ** 5000):
            self.check_no_number(P, (5, 5), value)
            if not is_integer(value) or value not in range(8):
                self.check_no_number(P, (6, 6), value)
        self.check_no_number(P, (5, 6), 2)
        self.check_no_number(P, (6, 6), 8)

    def test_very_many(self):
        for pair, box, many in (
            (((2,), (3,)), (MOST,), 333333333334),
            (((1,), (1,)), (MOST,), 2 * (MOST + 1)),
            (((1, 1), (1, 1)), (MOST, MOST), 4 * (MOST + 1)),
            (((1, 1, 1, 1), (1, 1, 1, 1)), (MOST,) * 4, 8 * (MOST + 1)),
            (((1, 2), (1, 3)), (MOST, 6), 2 * (MOST + 1) + 4),
            (((1, 2), (1, 3)), (MOST, 7), 2),
            (((1, 2), (1, 4)), (MOST, 7), 0),
            (((1, 2), (1, 2)), (MOST, 6), 2 * (MOST + 1) + 8),
            (((5, 1), (7, 1)), (MOST, 1), 2 * (MOST // 35 + 1) + 2),
            (((MOST,), (MOST,)), (MOST,), 4),
            (((MOST,), (1,)), (MOST,), 4),
            (((MOST - 1,), (MOST,)), (MOST,), 2),
            (((MOST - 1,), (1,)), (MOST,), 4),
        ):
            self.assertEqual(call_quick(self, count_cuts, pair, box), many, (pair, box))
            self.check_many(pair, box, many)

    def check_many(self, pair, box, many):
        rng = random.Random(14)
        numbers = {0, 1, many // 2 - 1, many // 2, many - 2, many - 1} | {rng.randrange(max(many, 1)) for _ in "1234"}
        last = None
        for number in sorted(number for number in numbers if 0 <= number < many):
            cut = call_quick(self, cut_at, pair, box, number)
            self.assertTrue(is_plain_cut(pair, box, *cut))
            self.assertEqual(call_quick(self, cut_number, pair, box, cut), number)
            self.assertTrue(last is None or last < cut)
            last = cut
            self.check_next(pair, box, number, cut, many)
        for number in (-1, many, many + 1, 10 ** 30):
            self.check_no_number(pair, box, number)

    def check_next(self, pair, box, number, cut, many):
        """Nothing between this cut and the next one, as far as can be looked at."""
        first, axis, at = cut
        for place in range(at + 1, min(at + 50, box[axis] + 1)):
            if is_plain_cut(pair, box, first, axis, place):
                self.assertEqual(cut_at(pair, box, number + 1), (first, axis, place))
                return
            self.check_no_cut(pair, box, (first, axis, place))

    def test_stretched(self):
        # All cuts across an axis go with the sides if these are multiplied.
        for pair, box in small_cases(200, seed=15):
            for axis in range(len(box)):
                by = MOST // max(pair[0][axis], pair[1][axis], box[axis])
                great = tuple(put(brick, axis, brick[axis] * by) for brick in pair)
                great_box = put(box, axis, box[axis] * by)
                expected = [(first, k, at * by if k == axis else at) for first, k, at in plain_cuts(pair, box)]
                self.assertEqual(count_cuts(great, great_box), len(expected))
                for number, cut in enumerate(expected):
                    self.assertEqual(cut_at(great, great_box, number), cut)
                    self.assertEqual(cut_number(great, great_box, cut), number)
                    if cut[1] == axis:
                        self.check_no_cut(great, great_box, put(cut, 2, cut[2] + 1))
                        self.check_no_cut(great, great_box, put(cut, 2, cut[2] - 1))


class NeededTest(unittest.TestCase):
    def kinds_in_all(self, pair, box):
        """The kinds that are in all of the fillings, which are gone through."""
        common = None
        for filling in plain_fillings(pair, box):
            kinds = {kind for kind, _ in filling}
            common = kinds if common is None else common & kinds
        return None if common is None else tuple(sorted(common))

    def test_against_all_fillings(self):
        for pair, box in small_cases(400, seed=16, most_cells=12):
            told = call_unchanged(self, needed, pair, box)
            self.assertEqual(repr_deep(told), repr_deep(self.kinds_in_all(pair, box)), (pair, box))

    def test_known(self):
        for many in (1, 2, 3, 4):
            ones, twos, threes = (1,) * many, (2,) * many, (3,) * many
            self.assertEqual(needed((ones, twos), (2,) * many), ())
            self.assertEqual(needed((ones, twos), (3,) * many), (0,))
            self.assertEqual(needed((twos, ones), (3,) * many), (1,))
            self.assertEqual(needed((twos, threes), (5,) + (6,) * (many - 1)), (0, 1))
            self.assertEqual(needed((twos, twos), (MOST,) * many), ())
            self.assertIsNone(needed((twos, twos), (MOST - 1,) * many))
            self.assertIsNone(needed((twos, threes), (1,) * many))

    def test_most_of(self):
        for pair, box in small_cases(800, seed=17):
            cells = math.prod(box)
            for kind in (0, 1):
                leaves = [cells // box[axis] * (at if first == kind else box[axis] - at)
                          for first, axis, at in plain_cuts(pair, box)]
                told = call_unchanged(self, most_of, pair, box, kind)
                self.assertEqual(repr_deep(told), repr_deep(max(leaves, default=None)), (pair, box, kind))

    def test_most_of_great_boxes(self):
        self.assertEqual(call_quick(self, most_of, ((2,), (3,)), (MOST,), 0), MOST)
        self.assertEqual(call_quick(self, most_of, ((2,), (3,)), (MOST,), 1), MOST - 4)
        self.assertEqual(call_quick(self, most_of, ((2, 1), (3, 1)), (MOST, MOST), 1), MOST * (MOST - 4))
        self.assertEqual(most_of(((2,) * 4, (MOST,) * 4), (MOST,) * 4, 1), MOST ** 4)
        self.assertEqual(most_of(((2, 2), (3, 3)), (4, 2), 1), 0)
        self.assertEqual(most_of(((2, 2), (3, 3)), (9, 3), 0), 0)
        self.assertIsNone(most_of(((2,), (4,)), (MOST - 1,), 0))
        self.assertIsNone(most_of(((2,), (4,)), (MOST - 1,), 1))


if __name__ == "__main__":
    unittest.main()
