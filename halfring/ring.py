"""Numbers, cells and marks on a ring: what is given is known to be as it must be."""


def window_in(shape):
    """How many records the window has."""
    cells, flight, _ = shape
    return cells - flight


def turn_in(shape):
    """How many places there are."""
    cells, _, marks = shape
    return marks * cells


def is_safe_ring(shape):
    """Whether shape is safe."""
    _, flight, marks = shape
    return marks >= 2 and turn_in(shape) > 3 * flight


def cell_in(shape, number):
    """The cell in which record number lies."""
    return number % shape[0]


def mark_in(shape, number):
    """The mark with which record number lies there."""
    cells, _, marks = shape
    return number // cells % marks
