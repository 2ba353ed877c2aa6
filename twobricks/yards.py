"""Yards, in which a pair and a box are edited, and full yards, whose box is filled at each version."""

from twobricks.bounds import BATCH, HISTORY
from twobricks.edits import edited, is_item
from twobricks.errors import (
    BadBatch, BadBox, BadKinds, BrickError, Busy, NoAxis, NotFilled, NothingToUndo, NoVersion, Rejected, TooManyEdits,
)
from twobricks.forms import box_error, is_index, pair_error
from twobricks.papers import cut_at, is_filled, paper
from twobricks.texts import kinds_text, sides_text


def state_text(pair, box):
    """The text of a pair and a box, and whether that is filled."""
    word = "filled" if is_filled(pair, box) else "barred"
    return f"{kinds_text(pair)} in {sides_text(box)}: {word}"


class Yard:
    """A pair and a box that can be edited; edits can be taken back."""

    def __init__(self, pair, box):
        error = pair_error(pair)
        if error is not None:
            raise BadKinds(error)
        error = box_error(pair, box)
        if error is not None:
            raise BadBox(error)
        # The pair and the box at each version from 0 on.
        self._states = ((pair, box),)
        self._news = "same"
        self._busy = False

    @classmethod
    def _made(cls, pair, box):
        """A new yard of this class."""
        return cls(pair, box)

    @property
    def pair(self):
        """The present pair."""
        return self._states[-1][0]

    @property
    def box(self):
        """The present box."""
        return self._states[-1][1]

    @property
    def version(self):
        """How many edits are in effect."""
        return len(self._states) - 1

    @property
    def news(self):
        """What the last change has made of the box: "filled", "barred" or "same"."""
        return self._news

    @property
    def paper(self):
        """A paper that says whether the box is filled."""
        return paper(self.pair, self.box)

    def side(self, axis, number):
        """Gives the box this side along the axis; returns the new version."""
        return self._edit(("side", axis, number))

    def brick(self, kind, axis, number):
        """Gives the brick of the kind this side along the axis; returns the new version."""
        return self._edit(("brick", kind, axis, number))

    def swap(self):
        """Exchanges both bricks; returns the new version."""
        return self._edit(("swap",))

    def turn(self, order):
        """Gives the axes of both bricks and of the box another order; returns the new version."""
        return self._edit(("turn", order))

    def stretch(self, axis, number):
        """Multiplies the sides of both bricks and of the box along the axis; returns the new version."""
        return self._edit(("stretch", axis, number))

    def undo(self):
        """Takes the last edit in effect back; returns the new version."""
        self._check_free()
        if self.version == 0:
            raise NothingToUndo()
        return self._change(self._states[:-1])

    def attempt(self, batch, *, on_step=None):
        """Does all edits of the batch or none, on_step being told of each; returns the new version."""
        self._check_free()
        if not isinstance(batch, (list, tuple)) or len(batch) > BATCH:
            raise BadBatch()
        before = self._states
        self._busy = True
        try:
            self._do_each(list(batch), on_step)
            done = self._states
        finally:
            self._busy = False
            self._states = before
        # Only now what was done is kept, all at once, so that the news tell of the whole.
        return self._change(done)

    def state_at(self, *, version=None):
        """The pair of the pair and the box at a version, the present one for None."""
        if version is None:
            return self._states[-1]
        if not is_index(version, len(self._states)):
            raise NoVersion(version)
        return self._states[version]

    def each_version(self):
        """Yields the pairs of the number of a version and whether the box is filled there."""
        states = self._states
        for version, (pair, box) in enumerate(states):
            yield (version, is_filled(pair, box))

    def copy(self):
        """A yard of the same class with the same edits in effect that goes on by itself."""
        twin = self._made(self.pair, self.box)
        twin._states = self._states
        twin._news = self._news
        return twin

    def _check_free(self):
        """Raises Busy within an attempt."""
        if self._busy:
            raise Busy()

    def _check_state(self, pair, box):
        """Raises an error if a yard of this class may not come to this pair and box; here it may come to all."""

    def _states_behind(self, item):
        """What the states are behind an edit."""
        if self.version == HISTORY:
            raise TooManyEdits()
        pair, box = edited(self.pair, self.box, item)
        self._check_state(pair, box)
        return self._states + ((pair, box),)

    def _change(self, states):
        """Makes these the states and tells the news of it; returns the new version."""
        before = bool(self)
        self._states = states
        after = bool(self)
        if before == after:
            self._news = "same"
        else:
            self._news = "filled" if after else "barred"
        return self.version

    def _edit(self, item):
        """Does an edit by itself; returns the new version."""
        self._check_free()
        return self._change(self._states_behind(item))

    def _do_each(self, items, on_step):
        """Does the items of a batch and tells on_step of each."""
        for index, item in enumerate(items):
            self._do_item(index, item)
            if on_step is not None:
                on_step(self)

    def _do_item(self, index, item):
        """Does one item of a batch; raises Rejected."""
        if not is_item(item):
            raise Rejected(index)
        try:
            self._states = self._states_behind(item)
        except BrickError:
            raise Rejected(index)

    def __getitem__(self, at):
        if not is_index(at, len(self.box)):
            raise NoAxis(at)
        return self.box[at]

    def __setitem__(self, at, worth):
        self.side(at, worth)

    def __iadd__(self, other):
        self._edit(("more", other))
        return self

    def __iter__(self):
        raise TypeError("a yard is not iterated over")

    def __len__(self):
        return len(self.box)

    def __bool__(self):
        return bool(is_filled(self.pair, self.box))

    def __str__(self):
        return f"{state_text(self.pair, self.box)}"

    def __eq__(self, other):
        if not isinstance(other, Yard) or self.__class__.__name__ != other.__class__.__name__:
            return False
        return self.pair == other.pair and self.box == other.box


class FullYard(Yard):
    """A yard whose box is filled at each version."""

    def __init__(self, pair, box):
        super().__init__(pair, box)
        self._check_state(pair, box)

    @classmethod
    def of(cls, pair):
        """The full yard of the pair whose box has the sides of the first brick."""
        error = pair_error(pair)
        if error is not None:
            raise BadKinds(error)
        return cls(pair, pair[0])

    @property
    def cut(self):
        """A cut of the box."""
        return cut_at(self.pair, self.box, 0)

    def _check_state(self, pair, box):
        """Raises NotFilled if the pair does not fill the box."""
        if not is_filled(pair, box):
            raise NotFilled(paper(pair, box))
