"""What deeds cost, told in records written: each of a row of them, at the most, and in the long run."""

from math import gcd

from halfring.carrying import writes_in
from halfring.errors import Full
from halfring.meaning import window_in_row
from halfring.records import is_deeds, is_single, parts_in, table_with
from halfring.ring import window_in
from halfring.shapes import is_shape
from halfring.values import checked, checked_for, is_below, is_natural, is_row_of


def writes_of(shape, deeds):
    """For each of deeds how many records it takes."""
    return tuple([len(writes) for _, writes in checked_writes(shape, deeds)])


def carried_of(shape, deeds):
    """For each of deeds how many of its records are carried."""
    return tuple([len(writes) - len(parts_in(deed)) for deed, writes in checked_writes(shape, deeds)])


def most_writes(shape, keys, many):
    """How many records a row of so many singles takes at the most, with never more than so many keys."""
    shape, keys = checked_keys(shape, keys)
    return most_in(shape, keys, checked(is_natural, many))


def most_at_once(shape, keys):
    """How many records one of these takes at the most."""
    _, keys = checked_keys(shape, keys)
    return keys + 1


def price(shape, keys):
    """The pair (window, window less keys) in least terms: so many records for so many of these in the long run."""
    shape, keys = checked_keys(shape, keys)
    whole = window_in(shape)
    common = gcd(whole, whole - keys)
    return whole // common, (whole - keys) // common


def worst_row(shape, keys, many):
    """A row of so many singles that takes as many records as one can, with never more than so many keys."""
    shape, keys = checked_keys(shape, keys)
    many = checked(is_natural, many)
    puts = tuple([("put", f"k{number}", "x") for number in range(min(keys, many))])
    # With all keys side by side each drop that reaches the eldest carries all of them.
    return puts + (("drop", "q"),) * (many - len(puts))


def is_worst_row(shape, keys, thing):
    """Whether thing is a tuple of singles with never more than so many keys that takes as many records as one can."""
    shape, keys = checked_keys(shape, keys)
    if not is_row_of(is_single, thing) or most_kept(thing) > keys:
        return False
    return sum([len(writes) for writes in writes_in_row(shape, thing)]) == most_in(shape, keys, len(thing))


def syncs_of(shape, records):
    """How many syncs go ahead of writes if so many records are written and no sync is asked for."""
    shape = checked(is_shape, shape)
    return max(0, rounded_up(checked(is_natural, records), shape[1]) - 1)


def is_keys_in(shape, thing):
    """Whether thing is a number from 0 below the window of shape, a shape."""
    return is_below(thing, window_in(shape))


def checked_keys(shape, keys):
    """The shape and the number of keys; Unfit() if one is none."""
    shape = checked(is_shape, shape)
    return shape, checked_for(is_keys_in, shape, keys)


def checked_writes(shape, deeds):
    """The pairs (deed, records written for it) for each of deeds, done from the beginning."""
    shape = checked(is_shape, shape)
    deeds = checked(is_deeds, deeds)
    rows = writes_in_row(shape, deeds)
    if None in rows:
        raise Full()
    return list(zip(deeds, rows))


def writes_in_row(shape, deeds):
    """For each of deeds, done from the beginning, the records written for it; the last is None if it has no room."""
    size = window_in(shape)
    window, rows = window_in_row((), size), []
    for deed in deeds:
        writes = writes_in(window, deed)
        rows.append(writes)
        if writes is None:
            return rows
        window = window_in_row(window + writes, size)
    return rows


def most_in(shape, keys, many):
    """How many records so many singles take at the most, with never more than so many keys."""
    whole = window_in(shape)
    if many <= whole:
        return many
    return many + keys * rounded_up(many - whole, whole - keys)


def most_kept(singles):
    """How many keys at the most the table has behind any of singles, done from the beginning."""
    table, most = (), 0
    for single in singles:
        table = table_with(table, (single,))
        most = max(most, len(table))
    return most


def rounded_up(number, other):
    """The least whole number that is not below number divided by other."""
    return -(-number // other)
