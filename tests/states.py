"""Yards beside plain states, for the tests of yards: what each edit does and what a yard tells, told anew."""

from tests.values import MOST, check_raises, is_integer, put, raised_by, repr_deep, some_pair
from twobricks.errors import BadOrder, BadSide, NoAxis, NoKind, NotFilled, TooLarge
from twobricks.papers import bar_papers, is_filled, paper, paper_holds
from twobricks.texts import kinds_text, sides_text

P = ((2, 2), (3, 3))

# Each edit with arguments that are right for two axes.
RIGHT_ITEMS = (
    ("side", 0, 7), ("brick", 1, 0, 4), ("swap",), ("turn", (1, 0)), ("stretch", 1, 3), ("more", 5),
)

# Each edit with arguments that are wrong whatever the yard is.
WRONG_ITEMS = (
    ("side", 9, 7), ("side", 0, 0), ("brick", 2, 0, 4), ("brick", 0, 4, 4), ("brick", 0, 0, 0), ("turn", (0, 0)),
    ("turn", None), ("stretch", -1, 3), ("stretch", 0, 0), ("stretch", 0, MOST), ("more", 0), ("more", MOST),
)


def do(yard, item):
    """Does an edit, told as the item of a batch, by the method of its name."""
    name, *given = item
    if name == "more":
        held = yard
        yard += given[0]
        assert yard is held
        return yard.version
    return getattr(yard, name)(*given)


def is_order(box, order):
    return order.__class__ is tuple and all(map(is_integer, order)) and sorted(order) == list(range(len(box)))


def plain_error(pair, box, item):
    """The class and the field of the error that an edit raises, None if it raises none; NotFilled does not count."""
    name, *given = item
    checks = []
    if name == "brick":
        checks.append((NoKind, given[0], is_integer(given[0]) and given[0] in (0, 1)))
    if name in ("side", "brick", "stretch"):
        checks.append((NoAxis, given[-2], is_integer(given[-2]) and given[-2] in range(len(box))))
    if name in ("side", "brick", "stretch", "more"):
        checks.append((BadSide, given[-1], is_integer(given[-1]) and 1 <= given[-1] <= MOST))
    if name == "turn":
        checks.append((BadOrder, given[0], is_order(box, given[0])))
    for error, value, right in checks:
        if not right:
            return error, value
    if name == "stretch":
        axis, number = given
        if max(sides[axis] for sides in pair + (box,)) * number > MOST:
            return TooLarge, axis
    if name == "more":
        great = [axis for axis, side in enumerate(box) if side + given[0] > MOST]
        if great:
            return TooLarge, great[0]
    return None


def plain_edited(pair, box, item):
    """The pair and the box behind an edit without an error."""
    name, *given = item
    if name == "side":
        return pair, put(box, *given)
    if name == "brick":
        kind, axis, number = given
        return put(pair, kind, put(pair[kind], axis, number)), box
    if name == "swap":
        return pair[::-1], box
    if name == "turn":
        one, other, turned = (tuple(sides[axis] for axis in given[0]) for sides in pair + (box,))
        return (one, other), turned
    if name == "stretch":
        axis, number = given
        one, other, whole = (put(sides, axis, sides[axis] * number) for sides in pair + (box,))
        return (one, other), whole
    return pair, tuple(side + given[0] for side in box)


def shown(yard):
    """All that a yard tells."""
    states = [yard.state_at(version=version) for version in range(yard.version + 1)]
    return repr_deep((yard.__class__.__name__, yard.pair, yard.box, yard.version, yard.news, yard.paper, bool(yard),
                      [yard[axis] for axis in range(len(yard))], len(yard), str(yard), states, yard.state_at(),
                      list(yard.each_version())))


def check_shown(test, yard, states, news):
    """Fails unless the yard tells all as it must for these states, from version 0 on."""
    pair, box = states[-1]
    filled = is_filled(pair, box)
    test.assertEqual(repr_deep((yard.pair, yard.box)), repr_deep((pair, box)))
    test.assertEqual(repr_deep(yard.version), repr_deep(len(states) - 1))
    test.assertEqual(yard.news, news)
    test.assertIs(paper_holds(pair, box, yard.paper), True)
    test.assertEqual(repr_deep(yard.paper), repr_deep(paper(pair, box)))
    test.assertIs(bool(yard), filled)
    test.assertEqual(repr_deep([yard[axis] for axis in range(len(box))]), repr_deep(list(box)))
    test.assertEqual(repr_deep(len(yard)), repr_deep(len(box)))
    word = "filled" if filled else "barred"
    test.assertEqual(str(yard), kinds_text(pair) + " in " + sides_text(box) + ": " + word)
    test.assertEqual(repr_deep([yard.state_at(version=at) for at in range(len(states))]), repr_deep(list(states)))
    test.assertEqual(repr_deep(yard.state_at()), repr_deep(states[-1]))
    expected = [(version, is_filled(*state)) for version, state in enumerate(states)]
    test.assertEqual(repr_deep(list(yard.each_version())), repr_deep(expected))
    test.assertTrue(yard == yard.__class__(pair, box))


def check_refused(test, yard, error, fields, function, *args):
    """Fails unless the call raises this error with these very values, and leaves the yard as it was."""
    before = shown(yard)
    check_raises(test, error, fields, function, *args)
    test.assertEqual(shown(yard), before)


def check_not_filled(test, yard, pair, box, function, *args):
    """Fails unless the call raises NotFilled with a paper for this pair and box, and leaves the yard as it was."""
    before = shown(yard)
    raised = raised_by(test, NotFilled, function, *args)
    test.assertEqual(list(vars(raised)), ["reason"])
    test.assertIs(paper_holds(pair, box, raised.reason), True)
    test.assertNotEqual(raised.reason[0], "cut")
    test.assertIn(raised.reason, bar_papers(pair, box))
    test.assertEqual(shown(yard), before)


def word_for(before, after):
    """What news must tell of a box that was and is filled or not."""
    return "same" if before == after else "filled" if after else "barred"


def set_item(yard, axis, number):
    yard[axis] = number


def do_more(yard, number):
    return do(yard, ("more", number))


def some_state(rng):
    """A pair and a box, of which about half are filled."""
    pair = some_pair(rng, rng.randint(1, 4), rng.choice((2, 3, 6)))
    return pair, tuple(rng.choice((a, b, a * b, a + b, rng.randint(1, 12))) for a, b in zip(*pair))


def some_number(rng):
    return rng.choice((1, 2, 3, 4, 5, 6, 10, 12, 1000, MOST // 2, MOST - 1, MOST))


def some_item(rng, many):
    """An edit with arguments that are mostly right."""
    axis = rng.choice((rng.randrange(many), rng.randrange(many), rng.randrange(many), -1, many, True, None))
    number = rng.choice((some_number(rng), some_number(rng), some_number(rng), 0, MOST + 1, True, "1", None))
    small = rng.choice((1, 1, 2, 3, 0, MOST))
    order = rng.choice((tuple(rng.sample(range(many), many)),) * 3 + (list(range(many)), (0,) * many, (many,), ()))
    return rng.choice((("side", axis, number), ("brick", rng.choice((0, 1, 0, 1, 2, False)), axis, number), ("swap",),
                       ("turn", order), ("stretch", axis, small), ("more", rng.choice((1, 2, 6, number)))))
