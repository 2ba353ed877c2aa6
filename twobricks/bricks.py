"""Bricks: the value of a pair, with the signs of Python for what is often asked of it."""

from twobricks.bounds import MAX_SIDE
from twobricks.errors import BadBox, BadKinds, BadSide, NoKind, TooLarge
from twobricks.forms import box_error, is_index, is_side, pair_error
from twobricks.pairs import atoms, within
from twobricks.papers import is_filled, paper
from twobricks.texts import kinds_text, parse_kinds


class Bricks:
    """A pair of bricks; it never changes."""

    MOST = 4

    def __init__(self, one, other):
        error = pair_error((one, other))
        if error is not None:
            raise BadKinds(error)
        self._pair = (one, other)
        self._atoms = atoms(self._pair)

    @property
    def pair(self):
        """Both bricks."""
        return self._pair

    @property
    def one(self):
        """The first brick."""
        return self._pair[0]

    @property
    def other(self):
        """The second brick."""
        return self._pair[1]

    @classmethod
    def read(cls, value):
        """The Bricks whose text value is; raises BadText and BadKinds."""
        kinds = parse_kinds(value)
        error = pair_error(kinds)
        if error is not None:
            raise BadKinds(error)
        return cls(kinds[0], kinds[1])

    def within(self, other):
        """Whether each box that these fill is filled by other Bricks; raises UnlikeAxes."""
        return within(self._pair, other.pair)

    def __contains__(self, x):
        return box_error(self._pair, x) is None and is_filled(self._pair, x)

    def __call__(self, box):
        error = box_error(self._pair, box)
        if error is not None:
            raise BadBox(error)
        return paper(self._pair, box)

    def __getitem__(self, at):
        if not is_index(at, 2):
            raise NoKind(at)
        return self._pair[at]

    def __len__(self):
        return len(self._pair[0])

    def __iter__(self):
        return iter(self._atoms)

    def __invert__(self):
        return Bricks(self._pair[1], self._pair[0])

    def __mul__(self, other):
        if not is_side(other):
            raise BadSide(other)
        for axis, sides in enumerate(zip(self._pair[0], self._pair[1])):
            if max(sides) * other > MAX_SIDE:
                raise TooLarge(axis)
        pair = [tuple([side * other for side in brick]) for brick in self._pair]
        return Bricks(pair[0], pair[1])

    def __str__(self):
        return f"{kinds_text(self._pair)}"

    def __eq__(self, other):
        return isinstance(other, Bricks) and self._pair == other.pair
