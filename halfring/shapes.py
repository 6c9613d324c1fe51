"""Shapes of a ring, and where numbers of records lie on it."""

from halfring.errors import NoCell, Unfit, Unsafe
from halfring.ring import cell_in, is_safe_ring, mark_in, turn_in, window_in
from halfring.values import as_tuples, checked, is_below, is_number, is_row


def is_shape(thing):
    """Whether thing is a shape (cells, flight, marks)."""
    if not is_row(thing, 3) or not all([is_number(part) for part in thing]):
        return False
    cells, flight, marks = thing
    return cells >= 2 and 1 <= flight < cells and marks >= 1


def is_place_in(shape, thing):
    """Whether thing is a place of shape, a shape."""
    return is_below(thing, turn_in(shape))


def checked_safe(shape):
    """The shape; Unfit() if it is none, Unsafe() if it is not safe."""
    own = checked(is_shape, shape)
    if not is_safe_ring(own):
        raise Unsafe()
    return own


def window(shape):
    """How many records the window has."""
    return window_in(checked(is_shape, shape))


def turn_of(shape):
    """How many places there are."""
    return turn_in(checked(is_shape, shape))


def is_safe(shape):
    """Whether shape is safe."""
    return is_safe_ring(checked(is_shape, shape))


def cell_of(shape, number):
    """The cell in which record number lies."""
    shape = checked(is_shape, shape)
    return cell_in(shape, checked(is_number, number))


def mark_of(shape, number):
    """The mark with which record number lies there."""
    shape = checked(is_shape, shape)
    return mark_in(shape, checked(is_number, number))


def as_place(shape, number):
    """The place of number."""
    shape = checked(is_shape, shape)
    return checked(is_number, number) % turn_in(shape)


def place_of(shape, cell, mark):
    """The place that lies in this cell with this mark."""
    shape = checked(is_shape, shape)
    cells, _, marks = shape
    if not is_below(cell, cells):
        raise NoCell(as_tuples(cell))
    if not is_below(mark, marks):
        raise Unfit()
    return mark * cells + cell


def ahead(shape, one, other):
    """How many steps lead from the place of one on to that of other."""
    shape = checked(is_shape, shape)
    start = checked(is_number, one)
    return (checked(is_number, other) - start) % turn_in(shape)


def in_window(shape, number, end):
    """Whether the place of number is one of the window just before that of end."""
    steps = ahead(shape, number, end)
    return 1 <= steps <= window(shape)


def least_marks(cells, flight):
    """The least number of marks of a safe shape with these cells and this flight; None if there is none."""
    if not is_shape((cells, flight, 2)):
        return None
    return max(2, 3 * flight // cells + 1)


def most_flight(cells, marks):
    """The greatest flight of a safe shape with these cells and marks; None if there is none."""
    if not is_shape((cells, 1, marks)) or marks < 2:
        return None
    return min(cells - 1, (marks * cells - 1) // 3)


def least_cells(flight, marks):
    """The least number of cells of a safe shape with this flight and these marks; None if there is none."""
    if flight < 1 or marks < 2:
        return None
    return max(flight + 1, 3 * flight // marks + 1)
