"""Plain kinds of values, and the one way to refuse what is of another kind."""

from halfring.errors import Unfit

# No value that the package takes is nested deeper, so what lies below need not be looked at.
DEEPEST = 20


def is_number(thing):
    """Whether thing is a number."""
    return isinstance(thing, int) and not isinstance(thing, bool)


def is_natural(thing):
    """Whether thing is a number from 0."""
    return is_number(thing) and thing >= 0


def is_below(thing, bound):
    """Whether thing is a number from 0 below bound."""
    return is_natural(thing) and thing < bound


def is_row(thing, many):
    """Whether thing is a tuple of so many."""
    return isinstance(thing, tuple) and len(thing) == many


def is_row_of(is_such, thing):
    """Whether thing is a tuple, maybe (), of values for which is_such holds."""
    return isinstance(thing, tuple) and all([is_such(part) for part in thing])


def is_rising(row):
    """Whether each of row is greater than the one ahead of it."""
    return all([row[at - 1] < row[at] for at in range(1, len(row))])


def as_tuples(thing, depth=DEEPEST):
    """thing with tuples in the place of lists."""
    if depth == 0 or not isinstance(thing, (list, tuple)):
        return thing
    return tuple([as_tuples(part, depth - 1) for part in thing])


def checked(is_such, thing):
    """thing with tuples in the place of lists, if is_such holds for that; else Unfit()."""
    own = as_tuples(thing)
    if not is_such(own):
        raise Unfit()
    return own


def checked_for(is_such, whole, thing):
    """thing likewise, where is_such asks about it beside whole."""
    own = as_tuples(thing)
    if not is_such(whole, own):
        raise Unfit()
    return own
