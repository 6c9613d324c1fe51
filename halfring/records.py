"""Keys, words, records, deeds and tables."""

from halfring.values import checked, is_natural, is_rising, is_row, is_row_of

SIGNS = "abcdefghijklmnopqrstuvwxyz0123456789"
MOST_SIGNS = 12
BLANK = ("blank",)


def is_word(thing):
    """Whether thing is a word that can be put."""
    if not isinstance(thing, str) or not 1 <= len(thing) <= MOST_SIGNS:
        return False
    return all([sign in SIGNS for sign in thing])


def is_key(thing):
    """Whether thing is a key."""
    return isinstance(thing, str) and is_word(thing.removeprefix("@"))


def is_single(thing):
    """Whether thing is a deed that is no lot."""
    if is_row(thing, 3):
        return thing[0] == "put" and is_key(thing[1]) and is_word(thing[2])
    return is_row(thing, 2) and thing[0] == "drop" and is_key(thing[1])


def is_deed(thing):
    """Whether thing is a deed."""
    if is_row(thing, 2) and thing[0] == "lot":
        return is_row_of(is_single, thing[1]) and len(thing[1]) >= 2
    return is_single(thing)


def is_record(thing):
    """Whether thing is a record."""
    if thing == BLANK:
        return True
    if not isinstance(thing, tuple):
        return False
    return is_single(thing[:-2]) and is_natural(thing[-2]) and is_natural(thing[-1])


def is_table(thing):
    """Whether thing is an ascending tuple of pairs (key, word), no key twice."""
    return is_row_of(is_table_pair, thing) and is_rising([key for key, _ in thing])


def is_table_pair(thing):
    """Whether thing is a pair (key, word)."""
    return is_row(thing, 2) and is_key(thing[0]) and is_word(thing[1])


def is_deeds(thing):
    """Whether thing is a tuple of deeds."""
    return is_row_of(is_deed, thing)


def is_records(thing):
    """Whether thing is a tuple of records."""
    return is_row_of(is_record, thing)


def parts_of(deed):
    """The records of the row of deed."""
    return parts_in(checked(is_deed, deed))


def row_of(deeds):
    """The records of the rows of all deeds, one behind the other."""
    row = []
    for deed in checked(is_deeds, deeds):
        row.extend(parts_in(deed))
    return tuple(row)


def keys_of(deed):
    """The set of the keys of deed."""
    singles = singles_in(checked(is_deed, deed))
    return tuple(sorted(set([single[1] for single in singles])))


def singles_in(deed):
    """The singles of deed, a deed."""
    if deed[0] == "lot":
        return deed[1]
    return (deed,)


def parts_in(deed):
    """The records of the row of deed, a deed."""
    singles = singles_in(deed)
    last = len(singles) - 1
    return tuple([single + (at, last - at) for at, single in enumerate(singles)])


def closed_in(records):
    """The pairs (i, singles) of all records i that close a lot, singles of the parts that the row has."""
    row = checked(is_records, records)
    return [(at, tuple([part[:-2] for part in row[first:at + 1]])) for first, at in closed_lots(row)]


def closed_lots(row):
    """The pairs (number of the first part that the row has, number of the last one) of all lots closed in row."""
    pairs = [(first_closed(row, at), at) for at in range(len(row))]
    return [pair for pair in pairs if pair[0] is not None]


def first_closed(row, at):
    """The number of the first part of the lot that record at closes; None if it closes none."""
    if row[at] == BLANK or row[at][-1] != 0:
        return None
    first = at - min(row[at][-2], at)
    if all([is_part_ahead(row[i], row[i + 1]) for i in range(first, at)]):
        return first
    return None


def is_part_ahead(part, later):
    """Whether part and later can stand so in one lot, one right ahead of the other."""
    if part == BLANK or later == BLANK:
        return False
    return part[-2:] == (later[-2] - 1, later[-1] + 1)


def left_begun(records):
    """How many records at the end are a lot begun and not closed."""
    return begun_in(checked(is_records, records))


def begun_in(row):
    """How many records at the end of row are a lot begun and not closed."""
    if len(row) == 0 or row[-1] == BLANK or row[-1][-1] == 0:
        return 0
    first = len(row) - 1
    while first > 0 and is_part_ahead(row[first - 1], row[first]):
        first -= 1
    return len(row) - first


def with_single(table, single):
    """The table behind single."""
    table = checked(is_table, table)
    return table_with(table, (checked(is_single, single),))


def with_deeds(table, deeds):
    """The table behind all deeds, the parts of a lot in order."""
    table = checked(is_table, table)
    singles = []
    for deed in checked(is_deeds, deeds):
        singles.extend(singles_in(deed))
    return table_with(table, singles)


def table_with(table, singles):
    """The table, a table, behind all singles."""
    kept = dict(table)
    for single in singles:
        if single[0] == "put":
            kept[single[1]] = single[2]
        else:
            kept.pop(single[1], None)
    return tuple(sorted(kept.items()))
