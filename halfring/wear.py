"""Wear: how often the writes of a life, and of its mending, begin each cell."""

from halfring.errors import CanNot
from halfring.lives import first_state, state_after
from halfring.log import checked_life, is_life_in
from halfring.ring import answer_in, cell_in, is_safe_ring, mending_in, window_in
from halfring.shapes import is_shape
from halfring.values import checked, is_natural

NOTE = ("write", ("blank",))
WAKE = ("wake",)


def wear(shape, life):
    """For each cell how often it is begun in life."""
    shape, life = checked_life(shape, life)
    return wear_in(shape, life)


def spread(shape, life):
    """How much oftener than another one a cell is begun in life, at the most."""
    shape, life = checked_life(shape, life)
    return spread_in(shape, life)


def most_spread(shape, mends, wakes):
    """The most that the spread of a life with so many mends and wakes can be."""
    shape, mends, wakes = checked_counts(shape, mends, wakes)
    return most_spread_in(shape, mends, wakes)


def worst_life(shape, mends, wakes):
    """A life with so many mends and wakes that has the greatest spread of these."""
    shape, mends, wakes = checked_counts(shape, mends, wakes)
    if not is_safe_ring(shape) or window_in(shape) == 1:
        raise CanNot()
    if shape[1] == 1:
        lap, mend = (NOTE, ("cut", ("old",))), ("mend", 0, ())
    else:
        # Number 1 came, 0 did not: mending begins the cell of 1, and what leaves it as it is begins it once more.
        lap, mend = (NOTE, NOTE, ("cut", ("old", "new"))), ("mend", 1, ("old",))
    if wakes == 0:
        return lap + (mend,) * mends if mends > 0 else lap[:-1]
    return lap + (mend,) * mends + (WAKE,) + (lap + (WAKE,)) * (wakes - 1) + lap[:-1]


def is_worst_life(shape, thing):
    """Whether thing is a life of shape with the greatest spread of as many mends and wakes as it has."""
    shape = checked(is_shape, shape)
    if not is_life_in(shape, thing):
        return False
    words = [event[0] for event in thing]
    return spread_in(shape, thing) == most_spread_in(shape, words.count("mend"), words.count("wake"))


def checked_counts(shape, mends, wakes):
    """The shape and both numbers; Unfit() if one is none."""
    shape = checked(is_shape, shape)
    mends = checked(is_natural, mends)
    return shape, mends, checked(is_natural, wakes)


def wear_in(shape, life):
    """For each cell how often it is begun in life, a life of shape."""
    state, times = first_state(shape), [0] * shape[0]
    for event in life:
        for cell in cells_begun(state, event):
            times[cell] += 1
        state = state_after(state, event)
    return tuple(times)


def cells_begun(state, event):
    """The cells that event begins there, where it can come."""
    (shape, picture, _), place = state
    if event[0] == "write":
        return [cell_in(shape, place)]
    if event[0] != "mend" and event[0] != "wake":
        return []
    cells = [cell for cell, _ in mending_in(shape, picture, answer_in(shape, picture))]
    return cells[:event[1]] if event[0] == "mend" else cells


def spread_in(shape, life):
    """The greatest of how often the cells are begun in life, a life of shape, less the least."""
    times = wear_in(shape, life)
    return max(times) - min(times)


def most_spread_in(shape, mends, wakes):
    """The most that the spread of a life of shape with so many mends and wakes can be."""
    return 1 + wakes if shape[1] == 1 else 1 + mends + 2 * wakes
