"""Readers without a lock: what one sees that looks at the cells one by one while records are written."""

from halfring.devices import checked_picture
from halfring.errors import CanNot, Unfit
from halfring.lives import stood_in
from halfring.log import is_log
from halfring.meaning import table_in, tables_in
from halfring.records import BLANK, is_records
from halfring.ring import answer_in, cell_in, is_safe_ring, mark_in, records_before, turn_in, window_in
from halfring.shapes import is_shape
from halfring.values import checked, checked_for, is_natural, is_row


def seen(log, records, looks):
    """The picture that a reader with these looks sees."""
    log, begun, looks = checked_reading(log, records, looks)
    return seen_in(log, begun, looks)


def told(shape, picture):
    """The table that one tells who sees picture."""
    shape, picture = checked_picture(shape, picture)
    place = answer_in(shape, picture)
    if place is None:
        raise CanNot()
    return table_in(records_before(shape, picture, place))


def moments(log, records):
    """The tables of the last records, first without those in flight, then behind each begun one."""
    log = checked(is_log, log)
    begun = begun_beside(log, checked(is_records, records))
    (shape, picture, _), _ = log
    return tables_in(records_before(shape, picture, stood_in(log)), begun)


def reads_right(log, records, looks):
    """Whether a reader with these looks reads right."""
    log, begun, looks = checked_reading(log, records, looks)
    return is_read_right(log[0][0], seen_in(log, begun, looks), stood_in(log), looks)


def right_by_numbers(shape, number, looks):
    """Whether a reader reads right that begins when so many records stood, nothing else being there."""
    shape = checked(is_shape, shape)
    number = checked(is_natural, number)
    return is_right_from(shape, number, checked_for(is_looks, shape, looks))


def most_begun(shape):
    """The bound: with looks of no more than that a reader always reads right."""
    shape = checked(is_shape, shape)
    if shape[2] == 1:
        raise CanNot()
    return bound_in(shape)


def wrong_looks(shape):
    """Looks, the greatest 1 above the bound, with which one that begins at the beginning reads wrong."""
    shape = checked(is_shape, shape)
    cells, flight, marks = shape
    if marks == 1:
        return (0,) * cells
    if is_safe_ring(shape):
        # Of the window that stood the eldest is gone, and of those ahead of what came instead none was seen.
        return tuple([flight + 1 if cell == flight else 0 for cell in range(cells)])
    # Three windows lie apart in the picture, with no more steps from each of them on to the next than flight.
    size = window_in(shape)
    return tuple([2 * size if size <= cell < 2 * size else 0 for cell in range(cells)])


def is_wrong_looks(shape, thing):
    """Whether thing are looks as wrong_looks tells them."""
    shape = checked(is_shape, shape)
    if not is_looks(shape, thing) or max(thing) != bound_in(shape) + 1:
        return False
    return not is_right_from(shape, 0, thing)


def is_looks(shape, thing):
    """Whether thing are looks of a reader at a ring of shape, a shape."""
    return is_row(thing, shape[0]) and all([is_natural(many) for many in thing])


def checked_reading(log, records, looks):
    """The log, the records begun and the looks; Unfit() if one is none, or one look is above how many are begun."""
    log = checked(is_log, log)
    begun = begun_beside(log, checked(is_records, records))
    looks = checked_for(is_looks, log[0][0], looks)
    if max(looks) > len(begun):
        raise Unfit()
    return log, begun, looks


def begun_beside(log, records):
    """The records in flight, then records."""
    (_, _, flight), _ = log
    return tuple([record for _, (_, record) in flight]) + records


def seen_in(log, begun, looks):
    """The picture that a reader with these looks sees, begun being the records from that on that did not stand."""
    (shape, picture, _), _ = log
    first, cells = stood_in(log), list(picture)
    for cell, number in enumerate(newest_numbers(shape, first, looks)):
        if number >= first:
            cells[cell] = (mark_in(shape, number), begun[number - first])
    return tuple(cells)


def newest_numbers(shape, first, looks):
    """Cell by cell the number of the newest record seen there by one that begins when first records stood."""
    ends = [(cell, first + many - 1) for cell, many in enumerate(looks)]
    return [end - (end - cell) % shape[0] for cell, end in ends]


def is_right_from(shape, number, looks):
    """Whether one with these looks reads right that begins when so many records stood, nothing else being there."""
    newest = newest_numbers(shape, number, looks)
    return is_read_right(shape, tuple([(mark_in(shape, own), BLANK) for own in newest]), number, looks)


def is_read_right(shape, picture, first, looks):
    """Whether one with these looks reads right that began when first records stood and sees picture."""
    place = answer_in(shape, picture)
    if place is None:
        return False
    newest = newest_numbers(shape, first, looks)
    # Which of the numbers with this place is meant is told by the record right ahead of it.
    end = newest[cell_in(shape, place - 1)] + 1
    if end < first:
        return False
    return all([newest[cell_in(shape, number)] == number for number in range(end - window_in(shape), end)])


def bound_in(shape):
    """The bound of shape, a shape."""
    _, flight, marks = shape
    return -1 if marks == 1 else min(flight, turn_in(shape) - 2 * flight - 1)
