"""The examiner: which pictures can lie on a ring, and what stands against those that can not."""

from halfring.devices import checked_picture, checked_shown, is_picture_in
from halfring.errors import CanNot, TooMany
from halfring.flights import TORN
from halfring.lives import life_leaving_at, state_behind
from halfring.records import BLANK
from halfring.ring import cell_in, mark_in, places_in, shows_in, turn_in, window_in, write_in
from halfring.shapes import is_place_in, is_shape
from halfring.values import checked, checked_for, is_below, is_row

MOST_CELLS_TO_TELL = 5
TORN_MARK = -1


def bars(shape, picture, place):
    """The set of the numbers of the cells that bar place."""
    shape, shown = checked_shown(shape, picture)
    return bars_in(shape, shown, checked_for(is_place_in, shape, place))


def can_lie(shape, picture):
    """Whether some life of shape leads to picture."""
    shape, picture = checked_picture(shape, picture)
    return can_lie_in(shape, picture)


def life_to(shape, picture):
    """A life that leads to picture and ends with a cut."""
    shape, picture = checked_picture(shape, picture)
    if not can_lie_in(shape, picture):
        raise CanNot()
    return life_leaving_at(shape, picture, least_barred(shape, places_in(shape, picture)))


def is_life_to(shape, picture, thing):
    """Whether thing is a life of shape that leads to picture."""
    shape, picture = checked_picture(shape, picture)
    state = state_behind(shape, thing)
    return state is not None and state[0][1] == picture


def reason(shape, picture):
    """For each place the number of a cell that bars it."""
    shape, shown = checked_shown(shape, picture)
    rows = bars_of_all(shape, shown)
    if () in rows:
        raise CanNot()
    return tuple([row[0] for row in rows])


def is_reason(shape, picture, thing):
    """Whether thing has for each place the number of a cell that bars it."""
    shape, shown = checked_shown(shape, picture)
    if not is_row(thing, turn_in(shape)):
        return False
    return all([is_below(cell, shape[0]) and cell in row for cell, row in zip(thing, bars_of_all(shape, shown))])


def flaws(shape, picture):
    """The least number of cells that must have other cells for picture to lie."""
    shape, shown = checked_shown(shape, picture)
    return flaws_in(shape, shown)


def near_lying(shape, picture):
    """A picture that can lie and differs from this one in so many cells."""
    shape, picture = checked_picture(shape, picture)
    shown = places_in(shape, picture)
    place, cells = least_barred(shape, shown), list(picture)
    for number in numbers_at(shape, place):
        if not suits(shape, shown, place, number):
            cell, content = write_in(shape, number, BLANK)
            cells[cell] = content if number < place else TORN
    return tuple(cells)


def is_near_lying(shape, picture, thing):
    """Whether thing is a picture that can lie and differs from this one in just as many cells as must be other."""
    shape, picture = checked_picture(shape, picture)
    if not is_picture_in(shape, thing) or not can_lie_in(shape, thing):
        return False
    unlike = [cell for cell in range(shape[0]) if thing[cell] != picture[cell]]
    return len(unlike) == flaws_in(shape, places_in(shape, picture))


def patterns(shape):
    """The set of the rows that have, cell by cell, the mark, or -1 if it is torn, of some picture that can lie."""
    shape = checked(is_shape, shape)
    if shape[0] > MOST_CELLS_TO_TELL:
        raise TooMany()
    rows = []
    for place in range(turn_in(shape)):
        rows.extend(patterns_at(shape, place))
    return tuple(sorted(set(rows)))


def numbers_at(shape, place):
    """The numbers that place asks for, each in a cell of its own: those of the window, and those that may be flown."""
    return list(range(place - window_in(shape), place + shape[1]))


def suits(shape, shown, place, number):
    """Whether the cell of number, one of those that place asks for, does not bar it."""
    if shows_in(shape, shown, number):
        return True
    if number < place:
        return False
    return shown[cell_in(shape, number)] is None or shows_in(shape, shown, number - shape[0])


def bars_in(shape, shown, place):
    """The numbers of the cells that bar place, ascending."""
    numbers = [number for number in numbers_at(shape, place) if not suits(shape, shown, place, number)]
    return tuple(sorted([cell_in(shape, number) for number in numbers]))


def bars_of_all(shape, shown):
    """For each place the numbers of the cells that bar it."""
    return [bars_in(shape, shown, place) for place in range(turn_in(shape))]


def flaws_in(shape, shown):
    """How many cells bar the place that is barred by the fewest."""
    return min([len(row) for row in bars_of_all(shape, shown)])


def least_barred(shape, shown):
    """The first place that is barred by the fewest cells."""
    counts = [len(row) for row in bars_of_all(shape, shown)]
    return counts.index(min(counts))


def can_lie_in(shape, picture):
    """Whether picture, one of shape, can lie."""
    return flaws_in(shape, places_in(shape, picture)) == 0


def patterns_at(shape, place):
    """The patterns of the pictures of which no cell bars place, some maybe twice."""
    marks = {}
    for number in numbers_at(shape, place):
        own = (mark_in(shape, number),)
        if number >= place:
            own += (TORN_MARK, mark_in(shape, number - shape[0]))
        marks[cell_in(shape, number)] = own
    rows = [()]
    for cell in range(shape[0]):
        rows = [row + (mark,) for row in rows for mark in marks[cell]]
    return rows
