"""Places of a picture: what it shows, which places are whole, and its answer."""

from halfring.devices import checked_picture, checked_shown
from halfring.errors import CanNot
from halfring.ring import (answer_in, far_in, gaps_in, is_whole_in, places_in, records_before, run_in, shows_in,
                           whole_in)
from halfring.shapes import is_place_in
from halfring.values import checked, checked_for, is_number


def shows(shape, picture, number):
    """Whether picture shows number."""
    shape, shown = checked_shown(shape, picture)
    return shows_in(shape, shown, checked(is_number, number))


def places_shown(shape, picture):
    """Cell by cell the place that picture shows there; None for a torn one."""
    _, shown = checked_shown(shape, picture)
    return shown


def run_ahead(shape, picture, place):
    """How many numbers right ahead of place picture shows, all cells at the most."""
    shape, shown = checked_shown(shape, picture)
    return run_in(shape, shown, checked_for(is_place_in, shape, place))


def is_whole(shape, picture, place):
    """Whether place is a whole place of picture."""
    shape, shown = checked_shown(shape, picture)
    return is_whole_in(shape, shown, checked_for(is_place_in, shape, place))


def whole_places(shape, picture):
    """The set of the whole places of picture."""
    shape, shown = checked_shown(shape, picture)
    return whole_in(shape, shown)


def gaps(shape, picture):
    """The pairs (place, steps on to the next whole place) for each whole place of picture."""
    shape, shown = checked_shown(shape, picture)
    return gaps_in(shape, shown)


def far_places(shape, picture):
    """The set of the far places of picture."""
    shape, shown = checked_shown(shape, picture)
    return far_in(shape, shown)


def answer(shape, picture):
    """The answer of picture."""
    shape, picture = checked_picture(shape, picture)
    place = answer_in(shape, picture)
    if place is None:
        raise CanNot()
    return place


def records_ahead(shape, picture, place):
    """The records of the window right ahead of place, the eldest first."""
    shape, picture = checked_picture(shape, picture)
    place = checked_for(is_place_in, shape, place)
    if not is_whole_in(shape, places_in(shape, picture), place):
        raise CanNot()
    return records_before(shape, picture, place)
