"""Carrying: last words that would leave the window are written again, so that none is lost."""

from halfring.errors import Full
from halfring.meaning import is_unbroken_in, last_words_in, put_of, table_in, tables_in, window_in_row
from halfring.records import is_deed, is_records, parts_in, singles_in, table_with
from halfring.values import checked, is_natural


def leaving(records, many):
    """The set of the pairs (number, key) of the last words among the first many."""
    window = checked(is_window, records)
    many = checked(is_natural, many)
    return tuple([word for word in last_words_in(window) if word[0] < many])


def carried(records, many):
    """The records written again ahead of many records."""
    window = checked(is_window, records)
    many = checked(is_natural, many)
    if many > room_in(window):
        raise Full()
    return carried_in(window, many)


def room_of(records):
    """The greatest many ahead of which there can be carried."""
    return room_in(checked(is_window, records))


def has_room(records, deed):
    """Whether deed has room."""
    window = checked(is_window, records)
    return has_room_in(window, checked(is_deed, deed))


def writes_for(records, deed):
    """The records carried ahead of the parts of deed, then its parts."""
    window = checked(is_window, records)
    writes = writes_in(window, checked(is_deed, deed))
    if writes is None:
        raise Full()
    return writes


def window_behind(records, writes):
    """The last records of both, as many as records has."""
    window = checked(is_window, records)
    return window_in_row(window + checked(is_records, writes), len(window))


def first_lost(records, writes):
    """The number of the first of writes behind which the table is not as it was ahead of them; None without."""
    window = checked(is_window, records)
    ahead, *behind = tables_in(window, checked(is_records, writes))
    lost = [number for number, table in enumerate(behind) if table != ahead]
    return min(lost, default=None)


def keeps(records, deed, writes):
    """Whether writes, not (), leave the table as it was behind each but the last, and behind that as deed does."""
    window = checked(is_window, records)
    deed = checked(is_deed, deed)
    ahead, *behind = tables_in(window, checked(is_records, writes))
    if behind == []:
        return False
    return all([table == ahead for table in behind[:-1]]) and behind[-1] == table_with(ahead, singles_in(deed))


def is_window(thing):
    """Whether thing is an unbroken row."""
    return is_records(thing) and is_unbroken_in(thing)


def room_in(window):
    """How many records of window, a window, are not those of last words."""
    return len(window) - len(last_words_in(window))


def carried_in(window, many):
    """The records written again ahead of many records, no more than there is room for."""
    written = ()
    words = last_words_in(window)
    while words != () and words[0][0] < many:
        put = put_of(window[words[0][0]])
        written, window = written + (put,), window[1:] + (put,)
        words = last_words_in(window)
    return written


def has_room_in(window, deed):
    """Whether deed, a deed, has room behind window, a window."""
    singles = singles_in(deed)
    return len(singles) <= room_in(window) and len(table_with(table_in(window), singles)) < len(window)


def writes_in(window, deed):
    """The records carried ahead of the parts of deed, then its parts; None if it has no room."""
    if not has_room_in(window, deed):
        return None
    parts = parts_in(deed)
    return carried_in(window, len(parts)) + parts
