"""Lives that leave a picture, and three lives with one picture and no answer right in all of them."""

from halfring.devices import checked_picture
from halfring.errors import CanNot, Unfit
from halfring.flights import TORN
from halfring.lives import ending_of, life_leaving, life_leaving_at
from halfring.log import checked_life, is_life_in
from halfring.records import BLANK
from halfring.ring import is_safe_ring, least_flown, places_in, turn_in, window_in, write_in
from halfring.shapes import is_place_in, is_shape
from halfring.values import checked, checked_for

# With one mark: nothing was written, or one blank record stands.
TWO_ALIKE = ((("cut", ()),), (("write", ("blank",)), ("sync",), ("cut", ())))


def life_at(shape, picture, place):
    """A life that ends with a cut, all in flight, all ahead of place having stood, and leaves picture."""
    shape, picture = checked_picture(shape, picture)
    place = checked_for(is_place_in, shape, place)
    if least_flown(shape, places_in(shape, picture), place) is None:
        raise CanNot()
    return life_leaving_at(shape, picture, place)


def picture_of(shape, life):
    """The picture that a life leaves which ends with a cut."""
    _, picture, _ = checked_ending(shape, life)
    return picture


def right_in(shape, life):
    """The set of the places right for a life that ends with a cut, whole ones or not."""
    _, _, places = checked_ending(shape, life)
    return places


def three_lives(shape):
    """Three lives, two with one mark, that leave one picture, with no place right in all of them."""
    shape = checked(is_shape, shape)
    if is_safe_ring(shape):
        raise CanNot()
    if shape[2] == 1:
        return TWO_ALIKE
    # From each of the three places on to the next one are at most as many steps as can be in flight.
    places = (0, shape[1], 2 * shape[1])
    picture = picture_with_whole(shape, places)
    return tuple([life_leaving(shape, picture, place) for place in places])


def is_three_lives(shape, thing):
    """Whether thing is a tuple of three lives, two with one mark, as three_lives tells them."""
    shape = checked(is_shape, shape)
    if not isinstance(thing, tuple) or len(thing) != (2 if shape[2] == 1 else 3):
        return False
    endings = [told_ending(shape, life) for life in thing]
    return None not in endings and leave_one_picture(endings) and right_in_all(endings) == ()


def agreed(shape, lives):
    """The set of the places right for all of lives, which end with a cut and leave one picture."""
    shape = checked(is_shape, shape)
    endings = [told_ending(shape, life) for life in checked_for(is_row_of_lives, shape, lives)]
    if None in endings:
        raise CanNot()
    if not leave_one_picture(endings):
        raise Unfit()
    return right_in_all(endings)


def is_row_of_lives(shape, thing):
    """Whether thing is a tuple, not (), of lives of shape, a shape."""
    return isinstance(thing, tuple) and thing != () and all([is_life_in(shape, life) for life in thing])


def checked_ending(shape, life):
    """The shape and what told_ending tells; Unfit() if life is no life of it, CanNot() if it ends otherwise."""
    shape, life = checked_life(shape, life)
    told = told_ending(shape, life)
    if told is None:
        raise CanNot()
    return (shape, *told)


def told_ending(shape, thing):
    """The pair (picture left, places right) of thing, if it is a life that ends with a cut; else None."""
    ending = ending_of(shape, thing)
    if ending is None:
        return None
    picture, stood, fates = ending
    return picture, tuple(sorted([(stood + step) % turn_in(shape) for step in range(len(fates) + 1)]))


def leave_one_picture(endings):
    """Whether all of endings have one picture."""
    return all([picture == endings[0][0] for picture, _ in endings])


def right_in_all(endings):
    """The places that are right for all of endings, ascending."""
    return tuple([place for place in endings[0][1] if all([place in places for _, places in endings])])


def picture_with_whole(shape, places):
    """The picture that shows the window of blank records ahead of each of places, and is torn elsewhere."""
    cells = [TORN] * shape[0]
    for place in places:
        for number in range(place - window_in(shape), place):
            cell, content = write_in(shape, number, BLANK)
            cells[cell] = content
    return tuple(cells)
