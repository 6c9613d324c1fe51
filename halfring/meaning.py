"""What a row of records means: its table, and the records in which the words of it stand."""

from halfring.errors import NoKey
from halfring.records import BLANK, begun_in, closed_lots, is_key, is_part_ahead, is_records
from halfring.values import checked, is_natural


def table_of(records):
    """The table of the row."""
    return table_in(checked(is_records, records))


def last_words(records):
    """The set of the pairs (number, key) of the last words of the row."""
    return last_words_in(checked(is_records, records))


def word_on(records, key):
    """The word of the last word on key."""
    row = checked(is_records, records)
    key = checked(is_key, key)
    kept = dict(table_in(row))
    if key not in kept:
        raise NoKey(key)
    return kept[key]


def window_of(records, many):
    """The last many records, blank ones ahead of all if there are fewer."""
    row = checked(is_records, records)
    return window_in_row(row, checked(is_natural, many))


def spare(records):
    """How many first records, at most, can leave before a last word does; all, if there is none."""
    row = checked(is_records, records)
    return min([len(row)] + [number for number, _ in last_words_in(row)])


def tables_behind(records, writes):
    """The tables of the last records, as many as records has, ahead of writes and behind each record of them."""
    row = checked(is_records, records)
    return tables_in(row, checked(is_records, writes))


def is_unbroken(records):
    """Whether the row is unbroken."""
    return is_unbroken_in(checked(is_records, records))


def gist(records):
    """The row with its last words, each as a put by itself, and its tail, all else blank."""
    row = checked(is_records, records)
    tail = len(row) - begun_in(row)
    cells = [BLANK] * tail
    for number, _ in last_words_in(row):
        cells[number] = put_of(row[number])
    return tuple(cells) + row[tail:]


def table_in(row):
    """The table of row, a row."""
    return tuple(sorted([(key, row[number][2]) for number, key in last_words_in(row)]))


def last_words_in(row):
    """The pairs (number, key) of the last words of row, a row, ascending."""
    last = {}
    for first, end in closed_lots(row):
        for number in range(first, end + 1):
            if row[number][0] == "put":
                last[row[number][1]] = number
            else:
                last.pop(row[number][1], None)
    return tuple(sorted([(number, key) for key, number in last.items()]))


def put_of(record):
    """The put of record, a put, by itself."""
    return record[:3] + (0, 0)


def window_in_row(row, many):
    """The last many records of row, a row, blank ones ahead of all if there are fewer."""
    return (BLANK,) * (many - len(row)) + row[max(0, len(row) - many):]


def tables_in(row, writes):
    """The tables of the last records, as many as row has, ahead of writes and behind each record of them."""
    both = row + writes
    return [table_in(both[at:at + len(row)]) for at in range(len(writes) + 1)]


def is_unbroken_in(row):
    """Whether row, a row, is unbroken."""
    return all([not is_later_part(row[at]) or is_part_ahead(row[at - 1], row[at]) for at in range(1, len(row))])


def is_later_part(record):
    """Whether record has a place above 0."""
    return record != BLANK and record[-2] > 0
