"""Mending of a picture, waking on it, and what is lost if the new ones alone are mended."""

from halfring.devices import checked_picture
from halfring.errors import CanNot, Unfit
from halfring.flights import fallen_in, flown_in, is_fates_row
from halfring.lives import first_state, state_after
from halfring.log import checked_life, is_life_in
from halfring.records import BLANK
from halfring.ring import answer_in, is_safe_ring, mending_in, places_in, shows_in, write_in
from halfring.shapes import is_shape
from halfring.values import as_tuples, checked, is_below

NOTE = ("write", ("blank",))


def mend_writes(shape, picture):
    """The pairs (number of a cell, cell) that mending writes, in order."""
    shape, picture, place = checked_answer(shape, picture)
    return mending_in(shape, picture, place)


def partly_mended(shape, picture, many, fates):
    """The picture when the first many writes of mending were begun and the power goes with these fates."""
    shape, picture, place = checked_answer(shape, picture)
    writes, own = mending_in(shape, picture, place), as_tuples(fates)
    if not is_below(many, len(writes) + 1) or not is_fates_row(own) or len(own) != many:
        raise Unfit()
    return fallen_in(picture, writes[:many], own)


def mended(shape, picture):
    """The picture with all of mending written."""
    shape, picture, place = checked_answer(shape, picture)
    return flown_in(picture, mending_in(shape, picture, place))


def is_mended(shape, picture):
    """Whether mending writes nothing."""
    shape, picture, place = checked_answer(shape, picture)
    return mending_in(shape, picture, place) == ()


def woken(shape, picture):
    """The log behind waking on picture."""
    shape, picture, place = checked_answer(shape, picture)
    return (shape, flown_in(picture, mending_in(shape, picture, place)), ()), place


def new_alone(shape, picture):
    """The picture with the new ones alone mended."""
    shape, picture, place = checked_answer(shape, picture)
    return new_alone_in(shape, picture, place)


def left_alone(shape, life):
    """The picture behind a life without mend if each wake mends the new ones alone."""
    shape, life = checked_life(shape, life)
    if has_mend(life):
        raise Unfit()
    picture = picture_left_alone(shape, life)
    if picture is None:
        raise CanNot()
    return picture


def lost_again(shape):
    """A life without mend that ends with a cut, behind which left_alone has no answer."""
    shape = checked(is_shape, shape)
    cells, flight, _ = shape
    if not is_safe_ring(shape) or 3 * flight < 2 * cells:
        raise CanNot()
    # Elder ones that were passed over are left; behind the one new record they are a whole place by themselves.
    passed = flight - (cells - flight)
    cut = ("cut", ("old",) * passed + ("new",) * (flight - passed))
    return (NOTE,) * flight + (cut, ("wake",), NOTE, ("sync",), ("cut", ()))


def is_lost_again(shape, thing):
    """Whether thing is a life without mend that ends with a cut, behind which left_alone has no answer."""
    shape = checked(is_shape, shape)
    if not is_life_in(shape, thing) or thing == () or thing[-1][0] != "cut" or has_mend(thing):
        return False
    picture = picture_left_alone(shape, thing)
    return picture is not None and answer_in(shape, picture) is None


def checked_answer(shape, picture):
    """The shape, the picture of it and its answer; Unfit() if one of the two is none, CanNot() without an answer."""
    shape, picture = checked_picture(shape, picture)
    place = answer_in(shape, picture)
    if place is None:
        raise CanNot()
    return shape, picture, place


def new_alone_in(shape, picture, place):
    """The picture, with place as its answer, with the new ones alone mended."""
    cells, flight, _ = shape
    shown = places_in(shape, picture)
    newer = [number for number in range(place, place + flight) if shows_in(shape, shown, number)]
    return flown_in(picture, [write_in(shape, number - cells, BLANK) for number in newer])


def has_mend(life):
    """Whether a mend is among the events of life."""
    return any([event[0] == "mend" for event in life])


def picture_left_alone(shape, life):
    """The picture behind life, a life without mend, if each wake mends the new ones alone; None without an answer."""
    state = first_state(shape)
    for event in life:
        if event[0] == "wake":
            state = woken_alone(state)
            if state is None:
                return None
        else:
            state = state_after(state, event)
    return state[0][1]


def woken_alone(state):
    """The state behind a wake that mends the new ones alone; None if there is no answer."""
    (shape, picture, _), _ = state
    place = answer_in(shape, picture)
    if place is None:
        return None
    return (shape, new_alone_in(shape, picture, place), ()), place
