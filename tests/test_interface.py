"""A3 and the interface: each function stands in its file, with the names of its arguments."""

import importlib
import inspect
import unittest

INTERFACE = {
    "forms": (
        "sides_error(value)", "kinds_error(value)", "pair_error(value)", "box_error(kinds, value)",
        "is_cell(box, value)", "volume(sides)",
    ),
    "texts": ("sides_text(sides)", "kinds_text(kinds)", "parse_sides(value)", "parse_kinds(value)"),
    "fillings": (
        "covered(kinds, placed)", "lies_in(kinds, box, value)", "places(kinds, box)",
        "filling_error(kinds, box, value)", "counts_in(kinds, filling)", "line_in(kinds, box, filling, axis, cell)",
        "fill(pair, box)", "seams(kinds, box, filling)", "halves(kinds, box, filling, axis, at)",
        "joined(kinds, box, filling, other_box, other, axis)", "mirrored(kinds, box, filling, axis)",
    ),
    "counting": (
        "count_fillings(kinds, box)", "filling_at(kinds, box, number)", "filling_number(kinds, box, value)",
        "first_filling(kinds, box)",
    ),
    "papers": (
        "is_filled(pair, box)", "paper(pair, box)", "paper_holds(pair, box, value)", "bar_papers(pair, box)",
        "count_cuts(pair, box)", "cut_at(pair, box, number)", "cut_number(pair, box, value)", "needed(pair, box)",
        "most_of(pair, box, kind)",
    ),
    "weights": (
        "weights_error(box, value)", "sum_in(kinds, weights, placed)", "total(weights)",
        "lightest(kinds, box, weights)", "bars(kinds, box, value)", "added(one, other)", "times(weights, number)",
        "find_weights(pair, box)", "weights_by(pair, box, value)", "thickness(kinds, box, value)",
    ),
    "signed": (
        "signed_holds(kinds, box, value)", "signed_at(kinds, blocks, cell)", "is_signed(pair, box)",
        "signed_fill(pair, box)", "signed_paper(pair, box)", "signed_paper_holds(pair, box, value)",
    ),
    "sizes": (
        "along(pair, box, axis)", "next_side(pair, box, axis, least)", "last_gap(pair, box, axis)",
        "tail(pair, box, axis)", "count_along(pair, box, axis, most)", "side_at(pair, box, axis, number)",
        "side_number(pair, box, axis, side)", "count_boxes(pair, most)", "box_at(pair, most, number)",
        "box_number(pair, most, box)",
    ),
    "pairs": ("within(one, other)", "escape(one, other)", "alike(one, other)", "atoms(pair)", "mates(brick, box)"),
    "lengths": ("units(kinds, box)", "whole(kinds, box)", "lengths_filled(pair, box)"),
    "plans": (
        "plan_error(kinds, value)", "box_of(kinds, plan)", "bricks_of(kinds, plan)", "filling_of(kinds, plan)",
        "plan_for(pair, box)", "plan_of(kinds, box, filling)", "chopped(kinds, box)", "chop(kinds, box)",
        "fewest_bricks(kinds, box)",
    ),
}

# The classes by their files: how each is made, and the methods that stand in it itself.
CLASSES = {
    ("bricks", "Bricks(one, other)"): (
        "read(value)", "within(self, other)", "__call__(self, box)", "__contains__", "__getitem__", "__len__",
        "__iter__", "__invert__", "__mul__", "__str__", "__eq__",
    ),
    ("yards", "Yard(pair, box)"): (
        "side(self, axis, number)", "brick(self, kind, axis, number)", "swap(self)", "turn(self, order)",
        "stretch(self, axis, number)", "undo(self)", "attempt(self, batch, *, on_step=None)",
        "state_at(self, *, version=None)", "each_version(self)", "copy(self)", "__getitem__", "__setitem__", "__iadd__",
        "__len__", "__bool__", "__str__", "__eq__",
    ),
    ("yards", "FullYard(pair, box)"): ("of(pair)",),
    ("shells", "Shell(yard)"): ("__call__(self, value)", "execute(self, value)"),
}

PROPERTIES = {
    "Bricks": ("pair", "one", "other"), "Yard": ("pair", "box", "version", "news", "paper"), "FullYard": ("cut",),
    "Shell": ("heard",),
}


def signature_of(name, called):
    """The name and the arguments of what is called, without annotations."""
    signature = inspect.signature(called)
    plain = [argument.replace(annotation=inspect.Parameter.empty) for argument in signature.parameters.values()]
    return name + str(inspect.Signature(plain))


class InterfaceTest(unittest.TestCase):
    def test_functions(self):
        for file, signatures in INTERFACE.items():
            module = importlib.import_module("twobricks." + file)
            for signature in signatures:
                name = signature.partition("(")[0]
                function = getattr(module, name)
                self.assertTrue(inspect.isfunction(function), name)
                self.assertEqual(function.__module__, module.__name__)
                self.assertEqual(signature_of(name, function), signature)

    def test_classes(self):
        for (file, made), methods in CLASSES.items():
            module = importlib.import_module("twobricks." + file)
            name = made.partition("(")[0]
            found = getattr(module, name)
            self.assertTrue(inspect.isclass(found), name)
            self.assertEqual(found.__module__, module.__name__)
            self.assertEqual(signature_of(name, found), made)
            for signature in methods:
                self.check_method(found, signature)
            for word in PROPERTIES[name]:
                self.assertIsInstance(vars(found)[word], property)
                self.assertIsNone(vars(found)[word].fset)

    def check_method(self, found, signature):
        """Each stands in the class itself; those of Python's signs are called by place only."""
        name = signature.partition("(")[0]
        self.assertIn(name, vars(found))
        if "(" in signature:
            self.assertEqual(signature_of(name, getattr(found, name)), signature)

    def test_full_yards_are_yards(self):
        yards = importlib.import_module("twobricks.yards")
        self.assertTrue(issubclass(yards.FullYard, yards.Yard))


if __name__ == "__main__":
    unittest.main()
