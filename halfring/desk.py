"""The desk: a store worked by lines of text, what was done of them being taken back and done once more."""

from halfring.errors import Asleep, Awake, BadText, Full, NoKey, NothingDone, Unfit
from halfring.records import is_deed, is_key
from halfring.signs import word_of
from halfring.store import Store
from halfring.texts import power_event_told

MOST_PARTS = 6
DONE = "done"


class Desk:
    """A store worked by lines of text.

    events are those of the story; earlier has the pairs (store, events) ahead of each say that can be taken back,
    later those behind each that can be done once more. A store that a desk has never changes: each say has a twin."""

    def __init__(self, shape):
        self.store = Store(shape)
        self.ring = self.store.device()[0]
        self.events = ()
        self.earlier = ()
        self.later = ()

    def say(self, text):
        """Does the lines of text, one by one; their answers."""
        store, events, answers = self.store.twin(), (), []
        for said in all_said(text):
            answer = answer_to(store, said)
            answers.append(answer)
            if is_event_said(said) and answer == DONE:
                events += (said,)
        if events != ():
            self.earlier += ((self.store, self.events),)
            self.later = ()
            self.store, self.events = store, self.events + events
        return tuple(answers)

    def story(self):
        """The story."""
        return self.events

    def shape(self):
        """The shape."""
        return self.ring

    def table(self):
        """The table."""
        return self.store.table()

    def device(self):
        """The device."""
        return self.store.device()

    def undo(self):
        """Takes back the last say by which an event was done; how many events the story has then."""
        if len(self.earlier) == 0:
            raise NothingDone()
        self.later += ((self.store, self.events),)
        self.store, self.events = self.earlier[-1]
        self.earlier = self.earlier[:-1]
        return len(self.events)

    def redo(self):
        """Does the last say that undo took back once more; how many events the story has then."""
        if len(self.later) == 0:
            raise NothingDone()
        self.earlier += ((self.store, self.events),)
        self.store, self.events = self.later[-1]
        self.later = self.later[:-1]
        return len(self.events)

    def twin(self):
        """Another desk like this one."""
        other = Desk(self.ring)
        other.store, other.events = self.store, self.events
        other.earlier, other.later = self.earlier, self.later
        return other

    def __eq__(self, other):
        """Whether other is a desk with one shape and one story."""
        return isinstance(other, Desk) and self.ring == other.ring and self.events == other.events


def all_said(text):
    """What the lines of text say, one by one: an event of a story, or what is asked for."""
    rows = []
    for at, line in enumerate(text.split("\n")):
        said = said_by(line)
        if said is None:
            raise BadText(at)
        rows.append(said)
    return rows


def said_by(line):
    """What line says; None if it is no such line."""
    row = line.split(" ")
    if line == "table" or line == "kept":
        return (line,)
    if row[0] == "get":
        return tuple(row) if len(row) == 2 and is_key(row[1]) else None
    deed = lot_said(line) if row[0] == "lot" else tuple(row)
    return ("deed", deed) if is_deed(deed) else power_event_told(row)


def lot_said(line):
    """What line, that of a lot, says as one, which need not be one; None if it has too many parts."""
    parts = line.removeprefix("lot ").split(", ")
    if len(parts) > MOST_PARTS:
        return None
    return "lot", tuple([tuple(part.split(" ")) for part in parts])


def is_event_said(said):
    """Whether said is an event, not what is asked for."""
    return said[0] not in ("get", "table", "kept")


def answer_to(store, said):
    """The answer of store to what was said, which is done in it if it can be."""
    try:
        return told_or_done(store, said)
    except Asleep:
        return "asleep"
    except Awake:
        return "awake"
    except Full:
        return "full"
    except NoKey:
        return "no key"
    except Unfit:
        return "unfit"


def told_or_done(store, said):
    """The answer of store to what was said, if nothing stands against it."""
    word = said[0]
    if word == "get":
        return store.get(said[1])
    if word == "table":
        return table_told(store.table())
    if word == "kept":
        return word_of(store.kept())
    do_event(store, said)
    return DONE


def table_told(table):
    """The answer that tells table."""
    if table == ():
        return "empty"
    return ", ".join([key + " " + word for key, word in table])


def do_event(store, event):
    """Does event, one of a story, in store."""
    if event[0] == "deed":
        store.do_deed(event[1])
    elif event[0] == "sync":
        store.sync()
    elif event[0] == "cut":
        store.cut(event[1])
    elif event[0] == "mend":
        store.mend(event[1], event[2])
    else:
        store.wake()
