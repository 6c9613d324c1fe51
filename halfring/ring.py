"""Numbers, places, marks and pictures on a ring: what is given is known to be as it must be.

shown is always places_in of a picture: cell by cell the place that it shows there, None for a torn cell."""

from halfring.flights import TORN
from halfring.records import BLANK


def window_in(shape):
    """How many records the window has."""
    cells, flight, _ = shape
    return cells - flight


def turn_in(shape):
    """How many places there are."""
    cells, _, marks = shape
    return marks * cells


def is_safe_ring(shape):
    """Whether shape is safe."""
    _, flight, marks = shape
    return marks >= 2 and turn_in(shape) > 3 * flight


def cell_in(shape, number):
    """The cell in which record number lies."""
    return number % shape[0]


def mark_in(shape, number):
    """The mark with which record number lies there."""
    cells, _, marks = shape
    return number // cells % marks


def write_in(shape, number, record):
    """The pair (number of the cell, cell) with which record is written as this number."""
    return cell_in(shape, number), (mark_in(shape, number), record)


def blank_picture(shape):
    """The picture of the beginning."""
    cells, _, marks = shape
    return ((marks - 1, BLANK),) * cells


def places_in(shape, picture):
    """Cell by cell the place that picture shows there; None for a torn one."""
    return tuple([None if own == TORN else own[0] * shape[0] + at for at, own in enumerate(picture)])


def shows_in(shape, shown, number):
    """Whether the picture shows number."""
    return shown[cell_in(shape, number)] == number % turn_in(shape)


def run_in(shape, shown, place):
    """How many numbers right ahead of place the picture shows, all cells at the most."""
    many = 0
    while many < shape[0] and shows_in(shape, shown, place - many - 1):
        many += 1
    return many


def is_whole_in(shape, shown, place):
    """Whether place is a whole place."""
    return run_in(shape, shown, place) >= window_in(shape)


def whole_in(shape, shown):
    """The whole places, ascending."""
    return tuple([place for place in range(turn_in(shape)) if is_whole_in(shape, shown, place)])


def records_before(shape, picture, place):
    """The records of the window right ahead of place, the eldest first; no cell of these is torn."""
    return tuple([picture[cell_in(shape, number)][1] for number in range(place - window_in(shape), place)])


def gaps_in(shape, shown):
    """The pairs (place, steps from it on to the next whole place) for each whole place, ascending."""
    turn, whole = turn_in(shape), whole_in(shape, shown)
    if len(whole) == 1:
        return ((whole[0], turn),)
    later = whole[1:] + whole[:1]
    return tuple([(place, (other - place) % turn) for place, other in zip(whole, later)])


def far_in(shape, shown):
    """The far places, ascending."""
    return tuple([place for place, steps in gaps_in(shape, shown) if steps > shape[1]])


def answer_in(shape, picture):
    """The answer of picture; None if it has none."""
    far = far_in(shape, places_in(shape, picture))
    if len(far) == 1:
        return far[0]
    return None


def least_flown(shape, shown, place):
    """The least flown with which (place, flown) is a fit, all greater ones are fits too; None if there is none."""
    cells, flight, _ = shape
    if not is_whole_in(shape, shown, place):
        return None
    least = 0
    for step in range(flight):
        if shown[cell_in(shape, place + step)] is None or shows_in(shape, shown, place + step - cells):
            continue
        if not shows_in(shape, shown, place + step):
            return None
        least = step + 1
    return least


def mending_in(shape, picture, place):
    """The writes of mending picture with place as its answer, pairs (number of a cell, cell)."""
    cells, flight, _ = shape
    shown = places_in(shape, picture)
    writes = []
    for number in range(place - cells, place - cells + flight):
        if shown[cell_in(shape, number)] is not None and not shows_in(shape, shown, number):
            writes.append(write_in(shape, number, BLANK))
    return tuple(writes)
