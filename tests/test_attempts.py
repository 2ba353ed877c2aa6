"""A3, N5: attempts, which do all edits of a batch or none."""

import itertools
import unittest

from tests.states import (
    P, RIGHT_ITEMS, WRONG_ITEMS, check_shown, do, plain_edited, plain_error, set_item, shown, word_for,
)
from tests.values import ANY_VALUES, NO_INTEGERS, check_error, check_raises, raised_by, repr_deep
from twobricks.errors import BadBatch, BrickError, Busy, NoAxis, NotFilled, Rejected
from twobricks.papers import is_filled
from twobricks.yards import FullYard, Yard

# What is no item of a batch at all.
NO_ITEMS = (
    None, 0, True, "swap", "", [], (), ["swap"], ["side", 0, 7], {"swap": ()}, ("swap", 0), ("side",), ("side", 0),
    ("side", 0, 7, 7), ("brick", 0, 0), ("brick", 0, 0, 4, 4), ("turn",), ("turn", 1, 0), ("stretch", 0),
    ("stretch", 0, 2, 2), ("more",), ("more", 1, 1), ("undo",), ("attempt", ()), ("copy",), ("Side", 0, 7),
    ("sides", 0, 7), (None, 0, 7), (0,), ((),), ([],), ({},), (["swap"],), (("swap",),), ("__len__",), ("swap ",),
    ("", 0, 7), ("__iadd__", 1),
    ("_edit", ("swap",)), ("+=", 1), ("__setitem__", 0, 7), ("state_at",), ("each_version",), (True, 0, 7),
)


class AttemptTest(unittest.TestCase):
    def test_right_batches(self):
        for length in range(21):
            items = [RIGHT_ITEMS[at % 3] for at in range(length)]
            for batch in (items, tuple(items)):
                yard, states = Yard(P, (5, 6)), [(P, (5, 6))]
                for item in items:
                    states.append(plain_edited(*states[-1], item))
                before = repr_deep(batch)
                self.assertEqual(repr_deep(yard.attempt(batch)), repr_deep(length))
                self.assertEqual(repr_deep(batch), before)
                check_shown(self, yard, states, word_for(True, is_filled(*states[-1])))

    def test_each_item(self):
        for many in (1, 2, 3, 4):
            pair, box = ((2, 3, 4, 5)[:many], (3, 2, 5, 4)[:many]), (7, 8, 9, 10)[:many]
            items = [("swap",), ("side", many - 1, 3), ("brick", 1, 0, 7), ("brick", 0, many - 1, 1), ("more", 4),
                     ("turn", tuple(range(many))[::-1]), ("stretch", many - 1, 2)]
            states = [(pair, box)]
            for item in items:
                states.append(plain_edited(*states[-1], item))
                yard = Yard(*states[-2])
                self.assertEqual(yard.attempt([item]), 1)
                check_shown(self, yard, states[-2:], word_for(is_filled(*states[-2]), is_filled(*states[-1])))
            yard = Yard(pair, box)
            self.assertEqual(yard.attempt(items), len(items))
            check_shown(self, yard, states, word_for(is_filled(*states[0]), is_filled(*states[-1])))
            # Each item that is done is an edit by itself.
            for at in range(len(items), 0, -1):
                self.assertEqual(yard.undo(), at - 1)
                self.assertEqual(yard.state_at(), states[at - 1])

    def test_no_batches(self):
        yard = Yard(P, (5, 6))
        yard.side(0, 1)
        for batch in (None, True, 0, 5, "", "swap", {}, {"swap": ()}, {0: ("swap",)}, {("swap",): 0}, 10 ** 30,
                      [("swap",)] * 21, (("swap",),) * 21, [None] * 21, [("swap",)] * 400, "x" * 21):
            steps = []
            before = shown(yard)
            with self.assertRaises(BadBatch) as held:
                yard.attempt(batch, on_step=steps.append)
            self.assertIs(held.exception.__class__, BadBatch)
            self.assertEqual(vars(held.exception), {})
            self.assertEqual(shown(yard), before)
            self.assertEqual(steps, [])
        self.assertEqual(yard.swap(), 2)

    def test_values_of_any_kind(self):
        for value in ANY_VALUES + NO_INTEGERS:
            yard = Yard(P, (5, 6))
            if isinstance(value, (list, tuple)) and len(value) == 0:
                self.assertEqual(yard.attempt(value), 0)
            elif isinstance(value, (list, tuple)):
                check_error(self, Rejected, {"index": 0}, yard.attempt, value)
            else:
                check_raises(self, BadBatch, {}, yard.attempt, value)
            check_shown(self, yard, [(P, (5, 6))], "same")

    def test_items_that_are_none(self):
        for item in NO_ITEMS + ANY_VALUES + NO_INTEGERS:
            for index in (0, 1, 19):
                for made in (Yard, FullYard):
                    self.check_rejected(made(P, (5, 6)), [("swap",)] * index + [item], index)

    def check_rejected(self, yard, batch, index):
        """Fails unless the item with this index is rejected when its turn comes, and all is as it was before."""
        before, seen = shown(yard), []
        check_error(self, Rejected, {"index": index}, yard.attempt, batch)
        self.assertEqual(shown(yard), before)
        raised = raised_by(self, Rejected, lambda: yard.attempt(batch, on_step=lambda one: seen.append(one.version)))
        self.assertEqual(repr_deep(raised.index), repr_deep(index))
        self.assertEqual(seen, list(range(yard.version + 1, yard.version + index + 1)))
        self.assertEqual(shown(yard), before)
        # It is not busy any more.
        self.assertEqual(yard.swap(), yard.version)
        yard.undo()

    def test_items_that_raise_errors(self):
        for item in WRONG_ITEMS:
            for index in (0, 1, 2, 10, 19):
                batch = [("side", 0, 12), ("swap",), ("more", 6), ("side", 1, 24)] * 5
                self.check_rejected(Yard(P, (5, 6)), batch[:index] + [item], index)
                self.check_rejected(Yard(P, (5, 6)), tuple(batch[:index]) + (item, None, ("swap",))[:20 - index], index)

    def test_the_first_one_of_several(self):
        for first, later in itertools.product(WRONG_ITEMS[:4] + NO_ITEMS[:4], repeat=2):
            self.check_rejected(Yard(P, (5, 6)), [("swap",), first, later], 1)

    def test_arguments_of_any_kind(self):
        for value in NO_INTEGERS + ANY_VALUES:
            for item in (("side", value, 5), ("side", 0, value), ("brick", value, 0, 5), ("brick", 0, value, 5),
                         ("brick", 0, 0, value), ("turn", value), ("stretch", value, 2), ("stretch", 0, value),
                         ("more", value)):
                yard = Yard(P, (5, 6))
                if plain_error(P, (5, 6), item) is None:
                    self.assertEqual(yard.attempt([item]), 1)
                else:
                    check_error(self, Rejected, {"index": 0}, yard.attempt, [item])
                    check_shown(self, yard, [(P, (5, 6))], "same")

    def test_too_many_edits_in_an_attempt(self):
        for edits in (9, 10, 11, 15, 29, 30):
            yard = Yard(P, (6, 6))
            for _ in range(edits):
                yard.swap()
            left = 30 - edits
            if left >= 20:
                self.assertEqual(yard.copy().attempt([("swap",)] * 20), edits + 20)
            else:
                self.assertEqual(yard.copy().attempt([("swap",)] * left), 30)
                check_error(self, Rejected, {"index": left}, yard.attempt, [("swap",)] * (left + 1))
                self.check_30(yard, left)
            self.assertEqual(yard.version, edits)
            self.assertEqual(yard.attempt([]), edits)

    def check_30(self, yard, left):
        before = shown(yard)
        check_error(self, Rejected, {"index": left}, yard.attempt, [("swap",)] * left + [None])
        self.assertEqual(shown(yard), before)

    def test_what_on_step_sees(self):
        yard = Yard(P, (5, 6))
        yard.side(0, 1)
        items = [("side", 0, 4), ("swap",), ("side", 1, 1), ("side", 1, 6)]
        states, seen = [(P, (5, 6)), (P, (1, 6))], []
        for item in items:
            states.append(plain_edited(*states[-1], item))

        def on_step(told):
            self.assertIs(told, yard)
            seen.append(told.version)
            check_shown(self, told, states[:told.version + 1], "barred")

        self.assertEqual(yard.attempt(items, on_step=on_step), 5)
        self.assertEqual(seen, [2, 3, 4, 5])
        check_shown(self, yard, states, "filled")

    def test_news_of_the_whole(self):
        for batch, word in (
            ([], "same"), ([("side", 0, 1)], "barred"), ([("side", 0, 1), ("side", 0, 4)], "same"),
            ([("side", 0, 4), ("side", 0, 1)], "barred"), ([("side", 0, 1), ("swap",)], "barred"),
            ([("swap",), ("side", 0, 6)], "same"),
        ):
            yard = Yard(P, (5, 6))
            yard.attempt(batch)
            self.assertEqual(yard.news, word, batch)
            yard = Yard(P, (1, 6))
            yard.side(0, 5)
            self.assertEqual(yard.news, "filled")
            yard.attempt(batch)
            self.assertEqual(yard.news, word, batch)
            yard = Yard(P, (5, 6))
            yard.side(0, 1)
            yard.attempt([("side", 1, 7)] + batch + [("side", 1, 6), ("side", 0, 5)])
            self.assertEqual(yard.news, "filled")

    def test_errors_from_on_step(self):
        for error in (ValueError("x"), KeyError(1), BrickError(), NoAxis(5), Rejected(7), Busy(), BadBatch(),
                      StopIteration(), KeyboardInterrupt(), GeneratorExit(), NotFilled(("step", 0)),
                      ZeroDivisionError()):
            for made in (Yard, FullYard):
                for last in (1, 2, 4):
                    yard = made(P, (6, 6))
                    yard.side(0, 12)
                    self.check_goes_on(yard, error, last)

    def check_goes_on(self, yard, error, last):
        before = shown(yard)

        def on_step(told):
            if told.version == 1 + last:
                raise error

        with self.assertRaises(BaseException) as held:
            yard.attempt([("swap",), ("side", 1, 12), ("more", 6), ("turn", (1, 0)), ("swap",)], on_step=on_step)
        self.assertIs(held.exception, error)
        self.assertEqual(shown(yard), before)
        self.assertEqual(yard.swap(), 2)
        self.assertEqual(yard.undo(), 1)

    def busy_calls(self, yard):
        """All that a busy yard must not do, right and wrong."""
        for item in RIGHT_ITEMS + WRONG_ITEMS:
            yield lambda item=item: do(yard, item)
        yield lambda: set_item(yard, 0, 6)
        yield lambda: set_item(yard, None, None)
        yield yard.undo
        for batch in ([], [("swap",)], None, [None], [("swap",)] * 21):
            yield lambda batch=batch: yard.attempt(batch)
            yield lambda batch=batch: yard.attempt(batch, on_step=lambda told: None)

    def check_busy(self, yard):
        before = shown(yard)
        for call in self.busy_calls(yard):
            check_raises(self, Busy, {}, call)
            self.assertEqual(shown(yard), before)

    def test_busy(self):
        for made in (Yard, FullYard):
            yard = made(P, (6, 6))
            seen = []

            def on_step(told):
                self.check_busy(told)
                seen.append(told.version)

            self.assertEqual(yard.attempt([("swap",), ("side", 0, 12)], on_step=on_step), 2)
            self.assertEqual(seen, [1, 2])
            self.assertEqual(yard.undo(), 1)
            self.assertEqual(yard.side(0, 18), 2)
            self.assertEqual(yard.attempt([("swap",)]), 3)

    def test_busy_ahead_of_too_many_edits(self):
        yard = Yard(P, (6, 6))
        for _ in range(29):
            yard.swap()
        self.assertEqual(yard.attempt([("swap",)], on_step=self.check_busy), 30)
        yard = Yard(P, (6, 6))
        yard.attempt([], on_step=lambda told: self.fail("there is no step"))
        # With nothing to undo but what the attempt has done, too.
        yard.attempt([("swap",)], on_step=self.check_busy)

    def test_not_busy_behind_an_error(self):
        yard = Yard(P, (6, 6))

        def on_step(told):
            told.swap()

        check_raises(self, Busy, {}, lambda: yard.attempt([("swap",)], on_step=on_step))
        check_shown(self, yard, [(P, (6, 6))], "same")
        self.assertEqual(yard.swap(), 1)

    def test_copies_made_within(self):
        for made in (Yard, FullYard):
            yard = made(P, (6, 6))
            yard.side(0, 12)
            copies = []

            def on_step(told):
                twin = told.copy()
                self.assertIs(twin.__class__, made)
                self.assertEqual(shown(twin), shown(told))
                copies.append(told.copy())
                # It is not busy.
                version = twin.version
                self.assertEqual(twin.swap(), version + 1)
                self.assertEqual(twin.attempt([("swap",), ("side", 1, 6)], on_step=lambda one: one.pair), version + 3)
                self.assertEqual([twin.undo() for _ in range(version + 3)], list(range(version + 3))[::-1])
                self.assertEqual(shown(told), shown(copies[-1]))
                if told.version == 3:
                    raise ZeroDivisionError

            with self.assertRaises(ZeroDivisionError):
                yard.attempt([("side", 0, 6), ("side", 1, 12), ("swap",)], on_step=on_step)
            states = [(P, (6, 6)), (P, (12, 6)), (P, (6, 6)), (P, (6, 12))]
            check_shown(self, yard, states[:2], "same")
            self.assertEqual(len(copies), 2)
            for twin, length in zip(copies, (3, 4)):
                check_shown(self, twin, states[:length], "same")

    def test_batches_that_on_step_changes(self):
        for change in (lambda batch: batch.clear(), lambda batch: batch.append(None), lambda batch: batch.reverse(),
                       lambda batch: batch.insert(0, ("side", 0, 1)), lambda batch: batch.__setitem__(1, None)):
            yard, batch = Yard(P, (6, 6)), [("side", 0, 12), ("swap",), ("side", 1, 18)]
            self.assertEqual(yard.attempt(batch, on_step=lambda told: change(batch)), 3)
            states = [(P, (6, 6)), (P, (12, 6)), (P[::-1], (12, 6)), (P[::-1], (12, 18))]
            check_shown(self, yard, states, "same")

    def test_versions_asked_for_within(self):
        yard, held = Yard(P, (6, 6)), []

        def on_step(told):
            told_versions = told.each_version()
            self.assertEqual(next(told_versions), (0, True))
            held.append(told_versions)

        self.assertRaises(Rejected, lambda: yard.attempt([("side", 0, 1), ("side", 0, 4), None], on_step=on_step))
        self.assertEqual([list(one) for one in held], [[(1, False)], [(1, False), (2, True)]])
        self.assertEqual(list(yard.each_version()), [(0, True)])

    def test_the_result_of_on_step_does_not_matter(self):
        for result in (None, False, True, 0, "x"):
            yard = Yard(P, (6, 6))
            self.assertEqual(yard.attempt([("swap",), ("swap",)], on_step=lambda told: result), 2)


if __name__ == "__main__":
    unittest.main()
