"""Which shapes are safe, told by their pictures, and the ends of pictures."""

from halfring.devices import checked_shown
from halfring.errors import CanNot, TooMany, Unfit
from halfring.fits import right_places_in
from halfring.lives import ending_of
from halfring.log import checked_life
from halfring.ring import cell_in, least_flown, shows_in, turn_in
from halfring.shapes import is_shape, least_marks
from halfring.threelives import TWO_ALIKE
from halfring.values import checked, is_number

MOST_CELLS_TO_TELL = 5
MOST_CELLS = 16
NOTE = ("write", ("blank",))


def is_safe_by_pictures(shape):
    """Whether for each picture with fits some place is right for all of them."""
    shape = checked(is_shape, shape)
    if shape[0] > MOST_CELLS_TO_TELL:
        raise TooMany()
    return all([right_places_in(shape, shown) != () for shown in shown_with_fit(shape)])


def shown_with_fit(shape):
    """Cell by cell the places shown by each picture that has a fit at place 0.

    That is enough: turned on round the ring, whatever has a fit has one there. Of the cells just its place counts."""
    cells, flight, _ = shape
    rows = [()]
    for cell in range(flight):
        rows = [row + (place,) for row in rows for place in (None, (cell - cells) % turn_in(shape), cell)]
    window = tuple([(cell - cells) % turn_in(shape) for cell in range(flight, cells)])
    return [row + window for row in rows]


def safe_table(most):
    """The triples (cells, flight, least marks of a safe shape) for all cells up to most, all flights."""
    if not is_number(most) or not 2 <= most <= MOST_CELLS:
        raise Unfit()
    pairs = [(cells, flight) for cells in range(2, most + 1) for flight in range(1, cells)]
    return tuple([(cells, flight, least_marks(cells, flight)) for cells, flight in pairs])


def ends(shape, picture):
    """The set of the ends of picture."""
    shape, shown = checked_shown(shape, picture)
    return tuple([place for place in range(turn_in(shape)) if is_end_in(shape, shown, place)])


def is_end_in(shape, shown, place):
    """Whether place is an end of what is shown."""
    if least_flown(shape, shown, place) is None:
        return False
    return shown[cell_in(shape, place)] is None or shows_in(shape, shown, place - shape[0])


def has_one_end(shape):
    """Whether no picture of shape has two ends."""
    return has_one_end_in(checked(is_shape, shape))


def has_one_end_in(shape):
    """Whether no picture of shape, a shape, has two ends."""
    cells, flight, marks = shape
    return marks >= 2 and 2 * flight <= cells


def life_end(shape, life):
    """The end of a life that ends with a cut."""
    shape, life = checked_life(shape, life)
    told = told_end(shape, life)
    if told is None:
        raise Unfit()
    return told[1]


def told_end(shape, thing):
    """The pair (picture left, end) of thing, if it is a life that ends with a cut; else None."""
    ending = ending_of(shape, thing)
    if ending is None:
        return None
    picture, stood, fates = ending
    lost = [step for step, fate in enumerate(fates) if fate != "new"]
    return picture, (stood + min([len(fates), *lost])) % turn_in(shape)


def two_ends(shape):
    """A pair of lives that end with a cut and leave one picture, with unlike ends."""
    shape = checked(is_shape, shape)
    if has_one_end_in(shape):
        raise CanNot()
    cells, flight, marks = shape
    if marks == 1:
        return TWO_ALIKE
    # Cell 0 is torn: by number 0, when all behind it came, or by number K, when all ahead of it in flight are old.
    first = (NOTE,) * flight + (("cut", ("torn",) + ("new",) * (flight - 1)),)
    many = cells - flight
    second = (NOTE,) * flight + (("sync",),) + (NOTE,) * (many + 1) + (("cut", ("old",) * many + ("torn",)),)
    return first, second


def is_two_ends(shape, thing):
    """Whether thing is a pair of lives that end with a cut and leave one picture, with unlike ends."""
    shape = checked(is_shape, shape)
    if not isinstance(thing, tuple) or len(thing) != 2:
        return False
    one, other = [told_end(shape, life) for life in thing]
    return one is not None and other is not None and one[0] == other[0] and one[1] != other[1]
