"""Values and checks that several tests use, and plain layings brick by brick to check against."""

import copy
import itertools
import time

MOST = 10 ** 12

# What is no tuple, and so neither sides nor kinds nor a cell, whatever stands in it.
NO_TUPLES = (
    None, True, False, 0, 1, -1, 2, MOST, 10 ** 30, -10 ** 39, "", "x", "5x6", "2x2 3x3", "a\nb",
    [], [1], [5, 6], [(2, 2), (3, 3)], [[2, 2], [3, 3]], {}, {0: 5, 1: 6}, {"sides": (5, 6)}, {(2, 2): (3, 3)},
)

# What is no integer from 1 to MOST.
NO_SIDES = (
    0, -1, -MOST, MOST + 1, 10 ** 30, -10 ** 30, 10 ** 5000, True, False, None, "", "1", "5x6", [], [1], (), (1,),
    {}, {1: 1}, (1, (2, (3, None))),
)

# What an error may be made with.
ANY_VALUES = NO_TUPLES + (
    (), (1,), (True,), (5, 6), ((2, 2), (3, 3)), (None, "sides"), (1, "side"), ("gap", 0, 2, 1), 10 ** 5000,
    [{"a": [1, (2, None)]}, "b"], {"a": {"b": [True, ()]}}, "it's", 'say "x"', "a" * 2000,
)

# What is no integer at all.
NO_INTEGERS = (None, True, False, "", "0", "1", [], [0], [1], (), (0,), (1,), {}, {0: 1}, {1: [0]}, ((0, (0,)),))


def call_unchanged(test, function, *args):
    """The result of function(*args); fails if the call changes what is passed, or an equal call has another result."""
    before = copy.deepcopy(args)
    result = function(*args)
    test.assertEqual(repr_deep(args), repr_deep(before))
    test.assertEqual(repr_deep(result), repr_deep(function(*args)))
    return result


def call_quick(test, function, *args):
    """The result of function(*args); fails if the call takes more than two seconds."""
    start = time.process_time()
    result = function(*args)
    test.assertLess(time.process_time() - start, 2, function.__name__)
    return result


def check_names(test, function, **args):
    """Fails unless the function takes these arguments, in this order, by place, by name and in part by each."""
    names = list(args)
    expected = repr_deep(function(*args.values()))
    for order in itertools.permutations(names):
        test.assertEqual(repr_deep(function(**{name: args[name] for name in order})), expected)
    for many in range(len(names)):
        first = [args[name] for name in names[:many]]
        test.assertEqual(repr_deep(function(*first, **{name: args[name] for name in names[many:]})), expected)


def raised_by(test, error, function, *args):
    """The error that the call raises; fails unless it is of this very class and nothing that is passed is changed."""
    before = copy.deepcopy(args)
    with test.assertRaises(error) as held:
        function(*args)
    test.assertIs(held.exception.__class__, error)
    test.assertEqual(repr_deep(args), repr_deep(before))
    return held.exception


def check_raises(test, error, fields, function, *args):
    """Fails unless the call raises this very error with these very fields, and changes nothing that is passed."""
    raised = raised_by(test, error, function, *args)
    test.assertEqual(list(vars(raised)), list(fields))
    for name, value in fields.items():
        test.assertIs(getattr(raised, name), value)


def check_error(test, error, fields, function, *args):
    """As check_raises, but what is in the fields may be made anew."""
    raised = raised_by(test, error, function, *args)
    test.assertEqual(repr_deep(vars(raised)), repr_deep(fields))


def repr_deep(value):
    """value in a form in which True and 1, or a list and a tuple, are unlike, too, also for very great integers."""
    if isinstance(value, (tuple, list)):
        return (value.__class__.__name__, tuple([repr_deep(item) for item in value]))
    if isinstance(value, dict):
        return ("dict", tuple([(repr_deep(key), repr_deep(item)) for key, item in value.items()]))
    return (value.__class__.__name__, value)


def is_integer(value):
    return value.__class__ is int


def put(value, at, item):
    """The tuple value with item in the place at."""
    return value[:at] + (item,) + value[at + 1:]


def bent_number(value):
    yield from (value - 1, value + 1, -value, -1, 0, 1, 2, 10 ** 30, -10 ** 30, value + 10 ** 5000)
    yield from (True, False, None, hex(value), "0", "1", "", [value], (value,), (), {}, {value: value})


def bent(value):
    """Values that are put otherwise than this one in one part, however deep that is."""
    if isinstance(value, str):
        yield from (value + "s", value[:-1], value.upper(), "", None, 0, True, [value], (value,), list(value))
        yield from [word for word in ("cut", "sides", "step", "gap") if word != value]
    elif isinstance(value, tuple):
        yield from (list(value), (value,), [value], value + (0,), value + (1,), value + (None,), value + ((),))
        yield from (dict(enumerate(value)), value + value, value[::-1], None)
        for at, item in enumerate(value):
            yield value[:at] + value[at + 1:]
            yield value[:at + 1] + value[at:]
            yield value[:at] + value[at + 1:at + 2] + value[at:at + 1] + value[at + 2:]
            for other in bent(item):
                yield put(value, at, other)
    elif isinstance(value, int):
        yield from bent_number(value)
    else:
        yield from (None, 0, [value], (value,))


def cells_of(box):
    """The cells of a box, ascending."""
    return list(itertools.product(*[range(side) for side in box]))


def brick_cells(kinds, placed):
    """The cells of a placed brick, ascending."""
    kind, corner = placed
    return list(itertools.product(*[range(low, low + side) for low, side in zip(corner, kinds[kind])]))


def lies_within(kinds, box, placed):
    """Whether a placed brick with corner numbers from 0 on lies in the box."""
    return all(low + side <= room for low, side, room in zip(placed[1], kinds[placed[0]], box))


def plain_places(kinds, box):
    """All placed bricks in the box, ascending."""
    every = itertools.product(range(len(kinds)), cells_of(box))
    return tuple(placed for placed in every if lies_within(kinds, box, placed))


def plain_fillings(kinds, box):
    """All fillings, laid brick by brick, in no order that is meant."""
    cells = cells_of(box)
    bricks_at = {cell: [] for cell in cells}
    for placed in plain_places(kinds, box):
        bricks_at[placed[1]].append((placed, frozenset(brick_cells(kinds, placed))))

    def laid(at, taken, chosen):
        while at < len(cells) and cells[at] in taken:
            at += 1
        if at == len(cells):
            yield tuple(sorted(chosen))
            return
        for placed, more in bricks_at[cells[at]]:
            if not more & taken:
                yield from laid(at + 1, taken | more, chosen + (placed,))

    return laid(0, frozenset(), ())


def is_plainly_filled(kinds, box):
    """Whether a box has a filling, found by laying brick by brick; what can not be ended is not tried again."""
    bits = {cell: 1 << at for at, cell in enumerate(cells_of(box))}
    masks = [(bits[placed[1]], sum(bits[cell] for cell in brick_cells(kinds, placed)))
             for placed in plain_places(kinds, box)]
    tried, waiting = {0}, [0]
    while waiting:
        taken = waiting.pop()
        least = (taken + 1) & ~taken
        for first, mask in masks:
            if first == least and not mask & taken and taken | mask not in tried:
                tried.add(taken | mask)
                waiting.append(taken | mask)
    return (1 << len(bits)) - 1 in tried


def random_filling(kinds, box, rng):
    """Some filling, laid brick by brick; kind 0 has the sides 1, so each beginning can be ended."""
    open_cells = dict.fromkeys(cells_of(box))
    chosen = []
    while open_cells:
        cell = next(iter(open_cells))
        for kind in rng.sample(range(len(kinds)), len(kinds)):
            cells = brick_cells(kinds, (kind, cell))
            if all(one in open_cells for one in cells):
                break
        chosen.append((kind, cell))
        for one in cells:
            del open_cells[one]
    return tuple(sorted(chosen))


def small_boxes(many, most):
    """All boxes of so many axes that have at most so many cells."""
    if many == 0:
        return [()]
    return [(side,) + box for side in range(1, most + 1) for box in small_boxes(many - 1, most // side)]


def some_pair(rng, many, longest):
    """A pair with sides up to longest; often with sides alike, or with such that divide one another."""
    one = tuple(rng.randint(1, longest) for _ in range(many))
    other = tuple(rng.choice((rng.randint(1, longest), rng.randint(1, longest), side, 1)) for side in one)
    return (one, other) if rng.random() < 0.5 else (other, one)
