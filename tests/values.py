"""Values and checks that several tests use."""

import copy

MOST = 10 ** 12

# What is no tuple, and so neither sides nor kinds nor a cell, whatever stands in it.
NO_TUPLES = (
    None, True, False, 0, 1, -1, 2, MOST, 10 ** 30, -10 ** 39, "", "x", "5x6", "2x2 3x3", "a\nb",
    [], [1], [5, 6], [(2, 2), (3, 3)], [[2, 2], [3, 3]], {}, {0: 5, 1: 6}, {"sides": (5, 6)}, {(2, 2): (3, 3)},
)

# What is no integer from 1 to MOST.
NO_SIDES = (
    0, -1, -MOST, MOST + 1, 10 ** 30, -10 ** 30, 10 ** 5000, True, False, None, "", "1", "5x6", [], [1], (), (1,),
    {}, {1: 1}, (1, (2, (3, None))),
)

# What an error may be made with.
ANY_VALUES = NO_TUPLES + (
    (), (1,), (True,), (5, 6), ((2, 2), (3, 3)), (None, "sides"), (1, "side"), ("gap", 0, 2, 1), 10 ** 5000,
    [{"a": [1, (2, None)]}, "b"], {"a": {"b": [True, ()]}}, "it's", 'say "x"', "a" * 2000,
)


def call_unchanged(test, function, *args):
    """The result of function(*args); fails if the call changes what is passed, or an equal call has another result."""
    before = copy.deepcopy(args)
    result = function(*args)
    test.assertEqual(repr_deep(args), repr_deep(before))
    test.assertEqual(result, function(*args))
    return result


def repr_deep(value):
    """value in a form in which True and 1, or a list and a tuple, are unlike, too, also for very great integers."""
    if isinstance(value, (tuple, list)):
        return (value.__class__.__name__, [repr_deep(item) for item in value])
    if isinstance(value, dict):
        return ("dict", [(repr_deep(key), repr_deep(item)) for key, item in value.items()])
    return (value.__class__.__name__, value)


def put(value, at, item):
    """The tuple value with item in the place at."""
    return value[:at] + (item,) + value[at + 1:]
