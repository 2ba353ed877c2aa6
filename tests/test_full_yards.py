"""A2, A3, N6: full yards, whose box is filled at each version."""

import itertools
import random
import unittest

from tests.states import (
    P, check_not_filled, check_refused, check_shown, do, plain_edited, set_item, shown, some_item, some_state,
)
from tests.values import MOST, check_error, raised_by, repr_deep, some_pair
from twobricks.errors import BadSide, BrickError, NoAxis, NoKind, NotFilled, Rejected, TooLarge, TooManyEdits
from twobricks.papers import bar_papers, count_cuts, cut_number, is_filled, paper_holds
from twobricks.yards import FullYard, Yard


class FullYardTest(unittest.TestCase):
    def test_document(self):
        yard = FullYard.of(((2, 2), (3, 3)))
        self.assertEqual(
            [yard.box, yard.attempt([("side", 0, 4), ("side", 1, 6)]), yard.box, yard.news],
            [(2, 2), 2, (4, 6), 'same'])
        self.assertEqual([yard.side(0, 7), yard.cut in ((0, 0, 4), (1, 0, 3))], [3, True])
        raised = raised_by(self, NotFilled, yard.side, 0, 1)
        self.assertIs(paper_holds(P, (1, 6), raised.reason), True)
        self.assertEqual(raised.reason, ('gap', 0, 2, 1))

    def test_not_filled(self):
        rng = random.Random(4)
        barred = 0
        for _ in range(300):
            pair, box = some_state(rng)
            if not is_filled(pair, box):
                barred += 1
                raised = raised_by(self, NotFilled, FullYard, pair, box)
                self.assertEqual(list(vars(raised)), ["reason"])
                self.assertIn(raised.reason, bar_papers(pair, box))
        self.assertGreater(barred, 50)

    def test_of(self):
        rng = random.Random(5)
        for _ in range(60):
            pair = some_pair(rng, rng.randint(1, 4), rng.choice((3, MOST)))
            yard = FullYard.of(pair)
            self.assertIs(yard.__class__, FullYard)
            check_shown(self, yard, [(pair, pair[0])], "same")
            self.assertEqual(yard, FullYard(pair, pair[0]))

    def test_cut(self):
        rng = random.Random(6)
        for _ in range(200):
            pair, box = some_state(rng)
            if is_filled(pair, box):
                yard = FullYard(pair, box)
                cut = yard.cut
                self.assertIsNotNone(cut_number(pair, box, cut), (pair, box, cut))
                self.assertEqual(repr_deep(yard.cut), repr_deep(cut))
                self.assertGreater(count_cuts(pair, box), 0)
                yard += self.step_to_filled(pair, box)
                self.assertIsNotNone(cut_number(pair, yard.box, yard.cut))

    def step_to_filled(self, pair, box):
        """By how much all sides may be made greater, so that the box is filled again."""
        return next(number for number in itertools.count(1) if is_filled(pair, tuple(side + number for side in box)))

    def test_edits(self):
        yard = FullYard(P, (5, 6))
        states = [(P, (5, 6))]
        for item in (("side", 0, 7), ("brick", 1, 0, 5), ("swap",), ("turn", (1, 0)), ("stretch", 0, 2), ("more", 12),
                     ("side", 1, 19)):
            state = plain_edited(*states[-1], item)
            if is_filled(*state):
                states.append(state)
                self.assertEqual(do(yard, item), len(states) - 1)
            else:
                check_not_filled(self, yard, *state, do, yard, item)
            check_shown(self, yard, states, "same")

    def test_edits_that_would_leave_it_not_filled(self):
        for pair, box, item in (
            (P, (5, 6), ("side", 0, 1)), (P, (5, 6), ("side", 1, 5)), (P, (5, 6), ("brick", 0, 0, 4)),
            (P, (5, 6), ("brick", 1, 1, MOST)), (P, (5, 6), ("more", 1)), (((2,), (4,)), (6,), ("more", 1)),
            (((2, 3), (2, 3)), (4, 3), ("brick", 0, 0, 3)), (((2,), (3,)), (5,), ("more", MOST - 5)),
        ):
            state = plain_edited(pair, box, item)
            if is_filled(*state):
                self.assertEqual(do(FullYard(pair, box), item), 1)
                continue
            yard = FullYard(pair, box)
            check_not_filled(self, yard, *state, do, yard, item)
            if item[0] == "side":
                check_not_filled(self, yard, *state, set_item, yard, *item[1:])
            self.assertEqual(yard.swap(), 1)
            yard.undo()
            before = shown(yard)
            check_error(self, Rejected, {"index": 0}, yard.attempt, [item])
            check_error(self, Rejected, {"index": 1}, yard.attempt, [("stretch", 0, 1), item])
            self.assertEqual(shown(yard), before)

    def test_behind_all_other_errors(self):
        yard = FullYard(P, (5, 6))
        check_refused(self, yard, NoAxis, {"given": 2}, yard.side, 2, 1)
        check_refused(self, yard, BadSide, {"given": 0}, yard.side, 0, 0)
        check_refused(self, yard, NoKind, {"given": None}, yard.brick, None, 0, 4)
        yard.side(0, 7)
        self.assertRaises(TooLarge, yard.stretch, 0, MOST)
        self.assertRaises(TooLarge, do, yard, ("more", MOST))
        for _ in range(29):
            yard.swap()
        check_refused(self, yard, TooManyEdits, {}, yard.side, 0, 1)

    def test_in_attempts(self):
        # Also where a later item would fill it again.
        for batch, index in (
            ([("side", 0, 1), ("side", 0, 5)], 0), ([("swap",), ("side", 0, 1), ("side", 0, 4)], 1),
            ([("brick", 0, 0, 4), ("brick", 1, 0, 1)], 0), ([("more", 6), ("side", 1, 13), ("side", 1, 12)], 1),
        ):
            yard, before = FullYard(P, (5, 6)), shown(FullYard(P, (5, 6)))
            seen = []
            check_error(self, Rejected, {"index": index}, yard.attempt, batch)
            raised_by(self, Rejected, lambda: yard.attempt(batch, on_step=lambda told: seen.append(told.version)))
            self.assertEqual(len(seen), index)
            self.assertEqual(shown(yard), before)
            # A yard that need not be full does it.
            self.assertEqual(Yard(P, (5, 6)).attempt(batch), len(batch))

    def test_filled_at_each_version(self):
        rng = random.Random(7)
        for _ in range(40):
            pair, box = some_state(rng)
            if not is_filled(pair, box):
                continue
            yard = FullYard(pair, box)
            for _ in range(25):
                try:
                    do(yard, some_item(rng, len(box)))
                except BrickError:
                    pass
            self.assertTrue(all(filled for _, filled in yard.each_version()))
            self.assertEqual(yard.news, "same")
            self.assertEqual(yard.paper[0], "cut")


if __name__ == "__main__":
    unittest.main()
