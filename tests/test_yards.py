"""A2, A3, N2, N3, N4: yards, their edits and versions."""

import inspect
import itertools
import random
import unittest

from tests.states import (
    P, RIGHT_ITEMS, WRONG_ITEMS, check_not_filled, check_refused, check_shown, do, do_more, is_order, plain_edited,
    plain_error, set_item, shown, some_item, some_state, word_for,
)
from tests.values import (
    ANY_VALUES, MOST, NO_INTEGERS, NO_SIDES, NO_TUPLES, call_quick, check_error, check_raises, is_integer, repr_deep,
)
from twobricks.errors import (
    BadBatch, BadBox, BadKinds, BadOrder, BadSide, BrickError, NoAxis, NoKind, NotFilled, NothingToUndo, NoVersion,
    Rejected, TooLarge, TooManyEdits,
)
from twobricks.forms import box_error, pair_error
from twobricks.papers import is_filled
from twobricks.yards import FullYard, Yard


class DocumentTest(unittest.TestCase):
    def test_yard(self):
        yard = Yard(((2, 2), (3, 3)), (5, 6))
        self.assertEqual(
            [bool(yard), yard.side(0, 1), yard.news, yard.paper, list(yard.each_version()), yard.undo(), str(yard),
             yard.stretch(1, 2), yard.box, yard.turn((1, 0)), yard.pair],
            [True, 1, 'barred', ('gap', 0, 2, 1), [(0, True), (1, False)], 0, '2x2 3x3 in 5x6: filled', 1, (5, 12), 2,
             ((4, 2), (6, 3))])

    def test_by_name(self):
        for made in (Yard, FullYard):
            self.assertEqual(made(pair=P, box=(5, 6)), made(P, (5, 6)))
            self.assertEqual(made(box=(5, 6), pair=P), made(P, box=(5, 6)))
            yard = made(P, (6, 6))
            self.assertEqual(yard.side(number=7, axis=0), 1)
            self.assertEqual(yard.side(1, number=12), 2)
            self.assertEqual(yard.brick(number=4, axis=1, kind=0), 3)
            self.assertEqual(yard.brick(1, number=6, axis=1), 4)
            self.assertEqual(yard.turn(order=(1, 0)), 5)
            self.assertEqual(yard.stretch(number=2, axis=1), 6)
            self.assertEqual((yard.pair, yard.box), (((4, 4), (6, 6)), (12, 14)))
            self.assertEqual(yard.attempt(batch=[("swap",)]), 7)
            steps = []
            self.assertEqual(yard.attempt(on_step=steps.append, batch=[("swap",)]), 8)
            self.assertEqual(yard.attempt([("swap",)], on_step=None), 9)
            self.assertEqual(len(steps), 1)
            self.assertEqual(yard.state_at(version=0), (P, (6, 6)))
            self.assertEqual(yard.state_at(version=None), yard.state_at())
            for wrong in (lambda: yard.state_at(0), lambda: yard.attempt([], None)):
                self.assertRaises(TypeError, wrong)
        self.assertEqual(FullYard.of(pair=P).box, (2, 2))


class NewYardTest(unittest.TestCase):
    def test_what_it_shows(self):
        rng = random.Random(1)
        for _ in range(300):
            pair, box = some_state(rng)
            check_shown(self, Yard(pair, box), [(pair, box)], "same")
            self.assertIs(Yard(pair, box).__class__, Yard)
            if is_filled(pair, box):
                check_shown(self, FullYard(pair, box), [(pair, box)], "same")
                self.assertIsInstance(FullYard(pair, box), Yard)

    def test_great_boxes(self):
        for pair, box in ((P, (MOST, MOST)), (((MOST,), (MOST - 1,)), (MOST,)), (((1,) * 4, (2,) * 4), (MOST,) * 4)):
            for made in (Yard, FullYard):
                yard = call_quick(self, made, pair, box)
                check_shown(self, yard, [(pair, box)], "same")

    def test_bad_kinds(self):
        wrong = ((), ((1,),), ((1,), (2,), (3,)), ((2, 2), (3,)), ((2, 2), (3, 0)), [(2, 2), (3, 3)], ((2, 2), [3, 3]))
        for value in NO_TUPLES + ANY_VALUES + NO_SIDES + wrong:
            error = pair_error(value)
            if error is not None:
                for made in (Yard, FullYard):
                    for box in ((5, 6), (0,), None, value):
                        check_error(self, BadKinds, {"error": error}, made, value, box)
                check_error(self, BadKinds, {"error": error}, FullYard.of, value)

    def test_bad_boxes(self):
        for pair in (P, ((2,), (3,)), ((1, 1, 1, 1), (2, 2, 2, 2))):
            wrong = ((), (5,), (5, 6, 7), (5, 0), (MOST + 1, 6), [5, 6], (1,) * 5)
            for value in NO_TUPLES + ANY_VALUES + NO_SIDES + wrong:
                error = box_error(pair, value)
                if error is not None:
                    for made in (Yard, FullYard):
                        check_error(self, BadBox, {"error": error}, made, pair, value)

    def test_known_errors(self):
        for pair, box, error, told in (
            ((), (), BadKinds, (None, "kinds")), (P + P, (5, 6), BadKinds, (None, "pair")),
            (P, (5,), BadBox, (None, "axes")), (P, (5, 0), BadBox, (1, "side")), (P, [5, 6], BadBox, (None, "sides")),
            (None, None, BadKinds, (None, "kinds")), (((2, 2), (0, 3)), (), BadKinds, (1, "sides")),
        ):
            for made in (Yard, FullYard):
                check_error(self, error, {"error": told}, made, pair, box)

    def test_properties_can_not_be_set(self):
        for yard in (Yard(P, (5, 6)), FullYard(P, (5, 6))):
            before = shown(yard)
            for name in ("pair", "box", "version", "news", "paper") + (("cut",) if isinstance(yard, FullYard) else ()):
                for value in (getattr(yard, name), None):
                    with self.assertRaises(AttributeError):
                        setattr(yard, name, value)
            self.assertEqual(shown(yard), before)

    def test_no_iteration(self):
        for yard in (Yard(P, (5, 6)), Yard(((2,), (3,)), (1,)), FullYard(P, (5, 6))):
            for call in (iter, list, tuple, sorted, lambda yard: [side for side in yard], lambda yard: 5 in yard,
                         lambda yard: dict(yard), lambda yard: max(yard), lambda yard: [*yard], enumerate):
                with self.assertRaises(TypeError):
                    call(yard)

    def test_sides(self):
        for yard in (Yard(P, (5, 6)), FullYard(P, (5, 6)), Yard(((2,), (3,)), (1,)),
                     Yard(((1,) * 4,) * 2, (4, 3, 2, 1))):
            for value in NO_INTEGERS + ANY_VALUES + (-1, -2, len(yard), len(yard) + 1, 10 ** 30, -10 ** 5000):
                if not is_integer(value) or value not in range(len(yard)):
                    check_refused(self, yard, NoAxis, {"given": value}, lambda axis: yard[axis], value)
            self.assertEqual([yard[axis] for axis in range(len(yard))], list(yard.box))

    def test_equal(self):
        states = ((P, (5, 6)), (P, (6, 5)), (P[::-1], (5, 6)), (((2, 2), (3, 6)), (5, 6)), (((2,), (3,)), (5,)),
                  (P, (6, 6)))
        yards = [(Yard, state) for state in states] + [(FullYard, state) for state in states if is_filled(*state)]
        for one, other in itertools.product(yards, repeat=2):
            self.check_equal(one[0](*one[1]), other[0](*other[1]), one == other)

    def check_equal(self, one, other, right):
        self.assertIs(one == other, right)
        self.assertIs(one != other, not right)

    def test_equal_whatever_the_versions(self):
        one, other = Yard(P, (5, 6)), Yard(P, (5, 6))
        one.side(0, 7)
        self.check_equal(one, other, False)
        one.side(0, 5)
        self.check_equal(one, other, True)
        other.attempt([("swap",), ("swap",)])
        self.check_equal(one, other, True)
        one.undo()
        one.undo()
        self.check_equal(one, other, True)
        # What they tell of the last change does not count either.
        one.side(0, 1)
        other.side(0, 4)
        other.side(0, 1)
        one.side(1, 7)
        one.side(1, 6)
        self.check_equal(one, other, True)

    def test_equal_to_other_values(self):
        for yard in (Yard(P, (5, 6)), FullYard(P, (5, 6))):
            for value in ANY_VALUES + NO_INTEGERS + (P, (5, 6), (P, (5, 6)), str(yard), object(), Yard, 1.5):
                self.check_equal(yard, value, False)
                self.check_equal(value, yard, False)
            self.check_equal(yard, yard, True)

    def test_not_equal_to_a_yard_of_another_class(self):
        class OtherYard(Yard):
            pass

        for one, other in itertools.permutations((Yard(P, (5, 6)), FullYard(P, (5, 6)), OtherYard(P, (5, 6))), 2):
            self.check_equal(one, other, False)
        self.check_equal(OtherYard(P, (5, 6)), OtherYard(P, (5, 6)), True)


class EditTest(unittest.TestCase):
    def check(self, yard, item, states):
        """Does an edit that is right and checks all that it changes; states are those of the yard so far."""
        before = is_filled(*states[-1])
        states.append(plain_edited(*states[-1], item))
        self.assertEqual(repr_deep(do(yard, item)), repr_deep(len(states) - 1), item)
        check_shown(self, yard, states, word_for(before, is_filled(*states[-1])))

    def test_each(self):
        for item in RIGHT_ITEMS:
            for box in ((5, 6), (6, 6), (1, 1), (4, 12)):
                self.check(Yard(P, box), item, [(P, box)])

    def test_each_argument(self):
        for many in (1, 2, 3, 4):
            pair, box = ((2, 3, 4, 5)[:many], (3, 2, 5, 4)[:many]), (7, 8, 9, 10)[:many]
            items = [("swap",)]
            for axis, number in itertools.product(range(many), (1, 2, 11, MOST)):
                items += [("side", axis, number), ("brick", 0, axis, number), ("brick", 1, axis, number)]
            items += [("stretch", axis, number) for axis in range(many) for number in (1, 2, 10 ** 11)]
            items += [("turn", order) for order in itertools.permutations(range(many))]
            items += [("more", number) for number in (1, 2, 12345, MOST - 10)]
            for item in items:
                self.check(Yard(pair, box), item, [(pair, box)])

    def test_turns_back(self):
        # The side along each axis becomes the one along the axis that the order tells, not the other way round.
        yard = Yard(((1, 2, 3), (4, 5, 6)), (7, 8, 9))
        yard.turn((1, 2, 0))
        self.assertEqual((yard.pair, yard.box), (((2, 3, 1), (5, 6, 4)), (8, 9, 7)))

    def test_sides_by_brackets(self):
        yard = Yard(P, (5, 6))
        yard[0] = 1
        check_shown(self, yard, [(P, (5, 6)), (P, (1, 6))], "barred")
        yard[1] = MOST
        check_shown(self, yard, [(P, (5, 6)), (P, (1, 6)), (P, (1, MOST))], "same")
        yard[0] = 6
        check_shown(self, yard, [(P, (5, 6)), (P, (1, 6)), (P, (1, MOST)), (P, (6, MOST))], "filled")

    def test_more(self):
        for made in (Yard, FullYard):
            yard = held = made(P, (5, 6))
            yard += 6
            self.assertIs(yard, held)
            check_shown(self, yard, [(P, (5, 6)), (P, (11, 12))], "same")
        yard = held = Yard(P, (6, 5))
        yard += 1
        self.assertIs(yard, held)
        check_shown(self, yard, [(P, (6, 5)), (P, (7, 6))], "same")
        yard += 2
        check_shown(self, yard, [(P, (6, 5)), (P, (7, 6)), (P, (9, 8))], "barred")

    def test_what_changes_nothing(self):
        for item in (("side", 0, 5), ("brick", 0, 0, 2), ("turn", (0, 1)), ("stretch", 0, 1)):
            self.check(Yard(P, (5, 6)), item, [(P, (5, 6))])
        self.check(Yard((P[0], P[0]), (4, 4)), ("swap",), [((P[0], P[0]), (4, 4))])

    def test_news(self):
        yard, states = Yard(P, (5, 6)), [(P, (5, 6))]
        for item, word in ((("side", 0, 1), "barred"), (("side", 0, 1), "same"), (("side", 0, 4), "filled"),
                           (("swap",), "same"), (("brick", 0, 1, 5), "same"), (("brick", 1, 1, 5), "barred"),
                           (("stretch", 1, 2), "same"), (("more", 18), "filled")):
            self.check(yard, item, states)
            self.assertEqual(yard.news, word, item)

    def test_at_the_bound(self):
        for item, box in (
            (("side", 0, MOST), (5, 6)), (("brick", 0, 1, MOST), (5, 6)), (("stretch", 0, 2), (MOST // 2, 6)),
            (("stretch", 1, MOST // 6), (5, 6)), (("more", 1), (MOST - 1, 6)), (("more", MOST - 6), (5, 6)),
        ):
            if item[0] != "stretch" or box[item[1]] * item[2] <= MOST:
                self.check(Yard(P, box), item, [(P, box)])
        for pair, box, item, axis in (
            (P, (MOST // 2 + 1, 6), ("stretch", 0, 2), 0), (P, (5, 6), ("stretch", 1, MOST // 6 + 1), 1),
            (((MOST, 2), (3, 3)), (5, 6), ("stretch", 0, 2), 0),
            (((3, 2), (3, MOST // 2 + 1)), (5, 6), ("stretch", 1, 2), 1),
            (P, (MOST, 6), ("more", 1), 0), (P, (6, MOST), ("more", 1), 1), (P, (MOST, MOST), ("more", MOST), 0),
            (P, (5, 6), ("more", MOST - 5), 1), (P, (6, 5), ("more", MOST - 5), 0), (P, (5, 5), ("more", MOST - 4), 0),
        ):
            yard = Yard(pair, box)
            before = shown(yard)
            check_error(self, TooLarge, {"axis": axis}, do, yard, item)
            self.assertEqual(shown(yard), before)
        self.check(Yard(((MOST, 2), (3, 3)), (MOST, 6)), ("stretch", 0, 1), [(((MOST, 2), (3, 3)), (MOST, 6))])

    def test_each_error_alone(self):
        for made, pair, box in ((Yard, P, (5, 6)), (FullYard, P, (5, 6)), (Yard, ((2,), (3,)), (1,)),
                                (Yard, ((1,) * 4, (2,) * 4), (4, 3, 2, 1))):
            yard = made(pair, box)
            yard.swap()
            for value in NO_INTEGERS + ANY_VALUES + NO_SIDES + (-1, -2, len(box), 10 ** 30):
                if not is_integer(value) or value not in range(len(box)):
                    check_refused(self, yard, NoAxis, {"given": value}, yard.side, value, 5)
                    check_refused(self, yard, NoAxis, {"given": value}, yard.brick, 0, value, 5)
                    check_refused(self, yard, NoAxis, {"given": value}, yard.stretch, value, 2)
                    check_refused(self, yard, NoAxis, {"given": value}, set_item, yard, value, 5)
                if not is_integer(value) or value not in (0, 1):
                    check_refused(self, yard, NoKind, {"given": value}, yard.brick, value, 0, 5)
                if not is_integer(value) or not 1 <= value <= MOST:
                    check_refused(self, yard, BadSide, {"given": value}, yard.side, 0, value)
                    check_refused(self, yard, BadSide, {"given": value}, yard.brick, 1, 0, value)
                    check_refused(self, yard, BadSide, {"given": value}, yard.stretch, 0, value)
                    check_refused(self, yard, BadSide, {"given": value}, set_item, yard, 0, value)
                    check_refused(self, yard, BadSide, {"given": value}, do_more, yard, value)
                if not is_order(box, value):
                    check_refused(self, yard, BadOrder, {"given": value}, yard.turn, value)

    def test_bad_orders(self):
        for many in (1, 2, 3, 4):
            yard = Yard(((2,) * many, (3,) * many), (5,) * many)
            for order in itertools.chain(itertools.product(range(-1, many + 1), repeat=many),
                                         itertools.product(range(many), repeat=many - 1),
                                         itertools.product(range(many), repeat=min(many + 1, 3))):
                if not is_order(yard.box, order):
                    check_raises(self, BadOrder, {"given": order}, yard.turn, order)
            for order in (list(range(many)), (True,) + tuple(range(1, many)), tuple(range(many)) + (0,), "0", {0: 0}, 0,
                          tuple(range(many - 1)) + (None,), (list(range(many)),), (False,) + tuple(range(1, many))):
                check_refused(self, yard, BadOrder, {"given": order}, yard.turn, order)

    def test_several_errors_at_once(self):
        yard = Yard(P, (5, 6))
        for value in (None, -1, "x", [], True, 10 ** 30):
            for other in (0, None, "x", MOST + 1, True):
                check_refused(self, yard, NoAxis, {"given": value}, yard.side, value, other)
                check_refused(self, yard, NoAxis, {"given": value}, yard.stretch, value, other)
                check_refused(self, yard, NoAxis, {"given": value}, set_item, yard, value, other)
                check_refused(self, yard, NoAxis, {"given": value}, yard.brick, 0, value, other)
                if value is not True:
                    check_refused(self, yard, NoKind, {"given": value}, yard.brick, value, other, value)
                    check_refused(self, yard, NoKind, {"given": value}, yard.brick, value, 0, other)
                    check_refused(self, yard, NoKind, {"given": value}, yard.brick, value, value, 5)
        check_refused(self, yard, BadSide, {"given": 10 ** 30}, yard.stretch, 0, 10 ** 30)
        check_refused(self, yard, BadSide, {"given": 10 ** 30}, do_more, yard, 10 ** 30)


class HistoryTest(unittest.TestCase):
    def full_of_edits(self, made=Yard):
        """A yard with 30 edits in effect, and the states."""
        yard, states = made(P, (6, 6)), [(P, (6, 6))]
        for at in range(30):
            item = (("swap",), ("side", 0, 6 * at + 6), ("turn", (1, 0)), ("side", 1, 6))[at % 4]
            states.append(plain_edited(*states[-1], item))
            self.assertEqual(do(yard, item), at + 1)
        return yard, states

    def test_30_edits(self):
        for made in (Yard, FullYard):
            yard, states = self.full_of_edits(made)
            check_shown(self, yard, states, "same")
            # Ahead of the edit's own errors.
            for item in RIGHT_ITEMS + WRONG_ITEMS + (("side", None, None), ("brick", "x", "x", "x"), ("more", None)):
                check_refused(self, yard, TooManyEdits, {}, do, yard, item)
            for axis, number in ((0, 6), (None, 6), (0, None)):
                check_refused(self, yard, TooManyEdits, {}, set_item, yard, axis, number)
            self.assertEqual(yard.undo(), 29)
            self.assertEqual(yard.side(0, 12), 30)
            check_refused(self, yard, TooManyEdits, {}, yard.swap)

    def test_30_edits_that_change_nothing(self):
        yard = Yard(P, (5, 6))
        for at in range(30):
            self.assertEqual(yard.side(0, 5), at + 1)
        check_refused(self, yard, TooManyEdits, {}, yard.side, 0, 5)

    def test_what_is_refused_does_not_count(self):
        yard = Yard(P, (5, 6))
        for _ in range(40):
            for item in WRONG_ITEMS:
                self.assertRaises(BrickError, do, yard, item)
            self.assertRaises(BrickError, yard.attempt, [("swap",), None])
        check_shown(self, yard, [(P, (5, 6))], "same")

    def test_undo(self):
        for made in (Yard, FullYard):
            yard, states = self.full_of_edits(made)
            while len(states) > 1:
                before = is_filled(*states.pop())
                self.assertEqual(repr_deep(yard.undo()), repr_deep(len(states) - 1))
                check_shown(self, yard, states, word_for(before, is_filled(*states[-1])))
            for _ in range(3):
                check_refused(self, yard, NothingToUndo, {}, yard.undo)
            self.assertEqual(yard, made(P, (6, 6)))

    def test_undone_edits_leave_nothing_behind(self):
        rng = random.Random(2)
        for _ in range(60):
            pair, box = some_state(rng)
            yard, other = Yard(pair, box), Yard(pair, box)
            done = 0
            for _ in range(rng.randint(1, 8)):
                item = some_item(rng, len(box))
                if plain_error(*yard.state_at(), item) is None:
                    do(yard, item)
                    done += 1
            for _ in range(done):
                yard.undo()
            item = ("side", 0, 4)
            self.assertEqual(do(yard, item), do(other, item))
            self.assertEqual(shown(yard), shown(other))
            self.assertEqual(yard.undo(), 0)
            self.assertRaises(NothingToUndo, yard.undo)

    def test_news_of_undo(self):
        yard = Yard(P, (5, 6))
        self.assertRaises(NothingToUndo, yard.undo)
        self.assertEqual(yard.news, "same")
        yard.side(0, 1)
        self.assertEqual((yard.news, yard.undo(), yard.news), ("barred", 0, "filled"))
        # What is refused leaves it as it is.
        self.assertRaises(NothingToUndo, yard.undo)
        self.assertEqual(yard.news, "filled")
        self.assertRaises(NoAxis, yard.side, 2, 5)
        self.assertRaises(Rejected, yard.attempt, [("side", 0, 1), None])
        self.assertRaises(BadBatch, yard.attempt, None)
        self.assertEqual(yard.news, "filled")
        yard.swap()
        self.assertEqual((yard.news, yard.undo(), yard.news), ("same", 0, "same"))
        yard.side(0, 1)
        yard.side(0, 4)
        self.assertEqual((yard.news, yard.undo(), yard.news), ("filled", 1, "barred"))

    def test_state_at(self):
        yard, states = self.full_of_edits()
        for version, state in enumerate(states):
            self.assertEqual(repr_deep(yard.state_at(version=version)), repr_deep(state))
        yard.undo()
        for value in NO_INTEGERS + ANY_VALUES + (-1, 30, 31, 10 ** 30, -10 ** 5000):
            if value is not None and not (is_integer(value) and 0 <= value <= 29):
                check_refused(self, yard, NoVersion, {"given": value}, lambda told: yard.state_at(version=told), value)
        yard = Yard(P, (5, 6))
        self.assertEqual(yard.state_at(version=0), (P, (5, 6)))
        for value in (1, True, False, -1):
            check_refused(self, yard, NoVersion, {"given": value}, lambda told: yard.state_at(version=told), value)

    def test_each_version(self):
        yard = Yard(P, (5, 6))
        self.assertTrue(inspect.isgenerator(yard.each_version()))
        self.assertEqual(list(yard.each_version()), [(0, True)])
        for number in (1, 4, 7, 1):
            yard.side(0, number)
        expected = [(0, True), (1, False), (2, True), (3, True), (4, False)]
        self.assertEqual(repr_deep(list(yard.each_version())), repr_deep(expected))
        # Edits between two pairs change nothing of it.
        found = []
        for version, filled in yard.each_version():
            found.append((version, filled))
            if version < 3:
                yard.undo()
            else:
                yard.attempt([("swap",), ("side", 0, 6), ("swap",)])
        self.assertEqual(found, expected)

    def test_each_version_from_the_first_pair_on(self):
        yard = Yard(P, (5, 6))
        told = yard.each_version()
        yard.side(0, 1)
        yard.side(0, 4)
        yard.undo()
        self.assertEqual(next(told), (0, True))
        yard.side(0, 6)
        self.assertEqual(next(told), (1, False))
        self.assertIsNone(next(told, None))
        # Two at once do not disturb one another.
        one, other = yard.each_version(), yard.each_version()
        self.assertEqual([next(one), next(one), next(other), next(one), next(other)],
                         [(0, True), (1, False), (0, True), (2, True), (1, False)])

    def test_each_version_when_all_is_undone_between(self):
        yard, states = self.full_of_edits()
        told = yard.each_version()
        self.assertEqual(next(told), (0, True))
        for _ in range(30):
            yard.undo()
        yard.side(0, 1)
        expected = [(version, is_filled(*state)) for version, state in enumerate(states)]
        self.assertEqual(list(told), expected[1:])

    def test_copy(self):
        rng = random.Random(3)
        for made in (Yard, FullYard):
            for _ in range(30):
                yard = made(P, (6, 6))
                for _ in range(rng.randint(0, 6)):
                    yard.side(rng.randint(0, 1), rng.choice((6, 12) if made is FullYard else (1, 5, 6, 12)))
                if yard.version and rng.random() < 0.5:
                    yard.undo()
                before = shown(yard)
                twin = yard.copy()
                self.assertIs(twin.__class__, made)
                self.assertIsNot(twin, yard)
                self.assertEqual(shown(twin), before)
                self.assertEqual(shown(yard), before)
                self.assertEqual(twin, yard)
                self.check_apart(yard, twin, before)

    def check_apart(self, yard, twin, before):
        """Fails unless what is done to each of both leaves the other one as it is."""
        for one, other in ((twin, yard), (yard, twin)):
            one.side(0, 18)
            one.swap()
            one += 6
            self.assertEqual(shown(other), before)
            one.attempt([("swap",), ("turn", (1, 0))])
            self.assertEqual(shown(other), before)
            while one.version:
                one.undo()
            self.assertEqual(shown(other), before)
            while other.version:
                other.undo()
            before = shown(one)

    def test_copies_of_subclasses(self):
        self.assertIs(FullYard(P, (5, 6)).copy().__class__, FullYard)
        twin = FullYard(P, (5, 6)).copy()
        check_not_filled(self, twin, P, (1, 6), twin.side, 0, 1)


class TogetherTest(unittest.TestCase):
    """Yards beside a plain list of states, through all that may be done to them."""

    def test_random_calls(self):
        rng = random.Random(8)
        for _ in range(120):
            pair, box = some_state(rng)
            made = FullYard if is_filled(pair, box) and rng.random() < 0.5 else Yard
            yard, states, news = made(pair, box), [(pair, box)], "same"
            for _ in range(rng.randint(1, 45)):
                word = rng.choice(("edit", "edit", "edit", "undo", "attempt"))
                before = is_filled(*states[-1])
                done = self.call(word, yard, states, rng)
                if done:
                    news = word_for(before, is_filled(*states[-1]))
                check_shown(self, yard, states, news)

    def call(self, word, yard, states, rng):
        """Does one thing to the yard and to the states; returns whether it is not refused."""
        if word == "undo":
            if len(states) == 1:
                check_raises(self, NothingToUndo, {}, yard.undo)
                return False
            states.pop()
            self.assertEqual(yard.undo(), len(states) - 1)
            return True
        many = len(states[0][1])
        if word == "edit":
            item = some_item(rng, many)
            error, fields, state = self.expected(yard, states, item)
            if error is NotFilled:
                check_not_filled(self, yard, *state, do, yard, item)
            elif error is not None:
                check_error(self, error, fields, do, yard, item)
            else:
                states.append(state)
                self.assertEqual(do(yard, item), len(states) - 1)
            return error is None
        return self.attempt(yard, states, [some_item(rng, many) for _ in range(rng.randint(0, 4))])

    def expected(self, yard, states, item):
        """The error class (None if there is none), its fields, and the state behind the edit."""
        if len(states) == 31:
            return TooManyEdits, {}, None
        error = plain_error(*states[-1], item)
        if error is not None:
            return error[0], {"axis" if error[0] is TooLarge else "given": error[1]}, None
        state = plain_edited(*states[-1], item)
        if isinstance(yard, FullYard) and not is_filled(*state):
            return NotFilled, None, state
        return None, None, state

    def attempt(self, yard, states, batch):
        new = list(states)
        for index, item in enumerate(batch):
            error, _, state = self.expected(yard, new, item)
            if error is not None:
                check_error(self, Rejected, {"index": index}, yard.attempt, batch)
                return False
            new.append(state)
        states[:] = new
        self.assertEqual(yard.attempt(batch), len(states) - 1)
        return True


if __name__ == "__main__":
    unittest.main()
