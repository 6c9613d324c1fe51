"""Texts of devices, lives and stories, a row a line."""

from halfring.devices import is_cell_in, is_device, is_write_in
from halfring.errors import BadText
from halfring.flights import TORN
from halfring.lives import is_event
from halfring.records import is_deed
from halfring.shapes import is_shape
from halfring.signs import number_of, word_of, words
from halfring.values import checked, is_row, is_row_of


def device_text(device):
    """The text of device."""
    shape, picture, flight = checked(is_device, device)
    rows = [("ring", shape)] + [("cell", cell) for cell in picture] + [("flight", write) for write in flight]
    return text_with(rows)


def life_text(life):
    """The text of the events of a life, whatever their fates."""
    return text_with(checked(is_life_row, life))


def story_text(story):
    """The text of the events of a story, whatever their fates."""
    events = checked(is_story_row, story)
    return text_with([event[1] if event[0] == "deed" else event for event in events])


def read_device(text):
    """The device that text tells."""
    rows = rows_in(text)
    if rows == []:
        raise BadText(0)
    shape = shape_told(rows[0][1])
    if shape is None:
        raise BadText(rows[0][0])
    many, flight, _ = shape
    parts = []
    for at, (line, row) in enumerate(rows[1:]):
        part = cell_told(shape, row) if at < many else write_told(shape, row)
        if part is None or at >= many + flight:
            raise BadText(line)
        parts.append(part)
    if len(parts) < many:
        raise BadText(rows[-1][0])
    return shape, tuple(parts[:many]), tuple(parts[many:])


def read_life(text):
    """The events of the life that text tells."""
    return events_told(text, life_event_told)


def read_story(text):
    """The events of the story that text tells."""
    return events_told(text, story_event_told)


def is_life_row(thing):
    """Whether thing is a tuple of events of lives in an order that can be."""
    return is_row_of(is_event, thing) and is_in_order(thing)


def is_story_row(thing):
    """Whether thing is a tuple of events of stories in an order that can be."""
    return is_row_of(is_story_event, thing) and is_in_order(thing)


def is_story_event(thing):
    """Whether thing is an event of a story, however many fates it has."""
    if is_row(thing, 2) and thing[0] == "deed":
        return is_deed(thing[1])
    return is_event(thing) and thing[0] != "write"


def is_in_order(events):
    """Whether mend and wake stand behind cut and mend alone, all others not there."""
    return all([can_follow(last, event) for last, event in zip((("sync",),) + events, events)])


def can_follow(last, event):
    """Whether event can stand right behind last, as far as the power goes."""
    return (event[0] in ("mend", "wake")) == (last[0] in ("cut", "mend"))


def text_with(rows):
    """The text with a line for each of rows, the words of all that stands in it, one behind the other."""
    return "".join([" ".join(words_in(row)) + "\n" for row in rows])


def words_in(value):
    """The words of value: a word, a number, or a tuple of values."""
    if isinstance(value, str):
        return [value]
    if not isinstance(value, tuple):
        return [word_of(value)]
    row = []
    for part in value:
        row.extend(words_in(part))
    return row


def rows_in(text):
    """The pairs (line, words of it) of all lines of text that have any."""
    rows = {}
    for word, line in words(text):
        rows.setdefault(line, []).append(word)
    return list(rows.items())


def shape_told(row):
    """The shape that a row ring tells; None if it is no such row."""
    shape = tuple([number_of(word) for word in row[1:]])
    return shape if row[0] == "ring" and is_shape(shape) else None


def cell_told(shape, row):
    """The cell of shape that a row cell tells; None if it is no such row."""
    content = content_told(row[1:])
    return content if row[0] == "cell" and is_cell_in(shape, content) else None


def write_told(shape, row):
    """The write in flight of shape that a row flight tells; None if it is no such row."""
    if row[0] != "flight" or len(row) < 2:
        return None
    write = (number_of(row[1]), content_told(row[2:]))
    return write if is_write_in(shape, write) else None


def content_told(row):
    """What row tells as a cell, which need not be one; None without words."""
    if row == ["torn"]:
        return TORN
    return (number_of(row[0]), record_told(row[1:])) if len(row) > 0 else None


def record_told(row):
    """What row tells as a record, which need not be one."""
    if row == ["blank"]:
        return tuple(row)
    return tuple(row[:-2]) + tuple([number_of(word) for word in row[-2:]])


def life_event_told(row):
    """The event of a life that row tells; None if it is none."""
    if row[0] != "write":
        return power_event_told(row)
    event = ("write", record_told(row[1:]))
    return event if is_event(event) else None


def story_event_told(row):
    """The event of a story that row tells; None if it is none."""
    deed = ("lot", singles_told(row[1:])) if row[0] == "lot" else tuple(row)
    return ("deed", deed) if is_deed(deed) else power_event_told(row)


def singles_told(row):
    """What row tells as singles, one behind the other, which need not be any."""
    singles, at = [], 0
    while at < len(row):
        end = at + 3 if row[at] == "put" else at + 2
        singles.append(tuple(row[at:end]))
        at = end
    return tuple(singles)


def power_event_told(row):
    """The event sync, cut, mend or wake that row tells; None if it is none."""
    event = tuple(row)
    if row[0] == "cut":
        event = ("cut", tuple(row[1:]))
    elif row[0] == "mend" and len(row) > 1:
        event = ("mend", number_of(row[1]), tuple(row[2:]))
    return event if is_event(event) else None


def events_told(text, event_told):
    """The events that text tells, each row by event_told."""
    # At the beginning the power is on, as it is behind a sync.
    events = [("sync",)]
    for line, row in rows_in(text):
        event = event_told(row)
        if event is None or not can_follow(events[-1], event):
            raise BadText(line)
        events.append(event)
    return tuple(events[1:])
