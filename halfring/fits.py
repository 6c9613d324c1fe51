"""Fits of a picture: what can have stood and been in flight, and which places are right for all of them."""

from itertools import combinations

from halfring.devices import checked_shown
from halfring.errors import CanNot
from halfring.ring import least_flown, turn_in, whole_in
from halfring.shapes import is_place_in
from halfring.values import checked_for, is_below, is_rising, is_row


def is_fit(shape, picture, thing):
    """Whether thing is a fit of picture."""
    shape, shown = checked_shown(shape, picture)
    return is_fit_in(shape, shown, thing)


def fits(shape, picture):
    """The set of the fits of picture."""
    shape, shown = checked_shown(shape, picture)
    leasts = least_fits_in(shape, shown)
    return tuple([(place, flown) for place, least in leasts for flown in range(least, shape[1] + 1)])


def least_fits(shape, picture):
    """The set of the least fits of picture."""
    shape, shown = checked_shown(shape, picture)
    return least_fits_in(shape, shown)


def right_for(shape, picture, fit):
    """The set of the places right for fit."""
    shape, shown = checked_shown(shape, picture)
    fit = checked_for(is_place_and_flown, shape, fit)
    if not is_fit_in(shape, shown, fit):
        raise CanNot()
    return right_for_all(shape, shown, (fit,))


def right_places(shape, picture):
    """The set of the places right for all fits of picture; () if it has none."""
    shape, shown = checked_shown(shape, picture)
    return right_places_in(shape, shown)


def is_right(shape, picture, place):
    """Whether place is right for picture."""
    shape, shown = checked_shown(shape, picture)
    place = checked_for(is_place_in, shape, place)
    return place in right_places_in(shape, shown)


def parting_fits(shape, picture):
    """A set of two fits (with one mark) or three (else) for all of which no place is right."""
    shape, shown = checked_shown(shape, picture)
    leasts = least_fits_in(shape, shown)
    if leasts == () or right_for_all(shape, shown, leasts) != ():
        raise CanNot()
    return first_parting(shape, shown, list(leasts), 2 if shape[2] == 1 else 3)


def is_parting(shape, picture, thing):
    """Whether thing is a set of fits of picture for all of which no place is right."""
    shape, shown = checked_shown(shape, picture)
    # For no fits at all each place is right.
    if thing == () or not isinstance(thing, tuple) or not all([is_fit_in(shape, shown, fit) for fit in thing]):
        return False
    return is_rising(thing) and right_for_all(shape, shown, thing) == ()


def is_place_and_flown(shape, thing):
    """Whether thing is a pair of a place of shape, a shape, and a number from 0 to its flight."""
    return is_row(thing, 2) and is_place_in(shape, thing[0]) and is_below(thing[1], shape[1] + 1)


def is_fit_in(shape, shown, thing):
    """Whether thing is a fit of what is shown."""
    if not is_place_and_flown(shape, thing):
        return False
    least = least_flown(shape, shown, thing[0])
    return least is not None and thing[1] >= least


def least_fits_in(shape, shown):
    """The least fits of what is shown, ascending."""
    pairs = [(place, least_flown(shape, shown, place)) for place in range(turn_in(shape))]
    return tuple([pair for pair in pairs if pair[1] is not None])


def right_for_all(shape, shown, some):
    """The whole places that are right for all fits of some, ascending."""
    turn = turn_in(shape)
    return tuple([own for own in whole_in(shape, shown) if all([(own - s) % turn <= flown for s, flown in some])])


def right_places_in(shape, shown):
    """The places right for all fits, ascending; () if there is no fit."""
    # What is right for the least fit with a place is right for the others with it, too.
    leasts = least_fits_in(shape, shown)
    if leasts == ():
        return ()
    return right_for_all(shape, shown, leasts)


def first_parting(shape, shown, leasts, many):
    """The first so many of leasts, in their order, for all of which no place is right."""
    for some in combinations(leasts, many):
        if right_for_all(shape, shown, some) == ():
            return some
    raise CanNot()
