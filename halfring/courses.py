"""Stories, event by event: what is given is known to be as it must be, but for what may be no story."""

from halfring.carrying import writes_in
from halfring.errors import Unfit
from halfring.lives import all_written, first_state, is_event, last_records, state_after
from halfring.meaning import table_in
from halfring.records import is_deed
from halfring.ring import answer_in, turn_in
from halfring.shapes import checked_safe
from halfring.values import as_tuples, is_row


class Course:
    """A story of a safe shape as it goes on.

    state is that of the ring; row are the records of the course, stands is how many of them stand (asleep: stood when
    the power went); deeds are the triples (number of the event, deed, number of the record behind it) of all deeds in
    the course, refusals the numbers of those that were refused; tables has for each event the table behind it."""

    def __init__(self, shape):
        self.state = first_state(shape)
        self.row = ()
        self.stands = 0
        self.deeds = ()
        self.refusals = ()
        self.tables = ()

    def is_awake(self):
        """Whether the power is on."""
        return self.state[1] is not None

    def go_on(self, event):
        """Does event, if it is one of a story and can come now; whether it could."""
        if is_row(event, 2) and event[0] == "deed":
            came = self.is_awake() and is_deed(event[1])
            if came:
                self.do_deed(event[1])
        else:
            came = is_event(event) and event[0] != "write" and self.come(event)
        if came:
            self.settle()
        return came

    def do_deed(self, deed):
        """Does deed, awake, or refuses it."""
        number = len(self.tables)
        writes = writes_in(last_records(self.state), deed)
        if writes is None:
            self.refusals += (number,)
        else:
            self.state = all_written(self.state, writes)
            self.row += writes
            self.deeds += ((number, deed, len(self.row)),)

    def come(self, event):
        """Does event, no deed, if it can come now; whether it could."""
        state = state_after(self.state, event)
        if state is None:
            return False
        if event[0] == "wake":
            many = self.number_at(state[1])
            self.row, self.deeds = self.row[:many], self.deeds_within(many)
        self.state = state
        return True

    def settle(self):
        """Tells anew what hangs on the state."""
        if self.is_awake():
            self.stands = len(self.row) - len(self.state[0][2])
        self.tables += (self.table(),)

    def table(self):
        """The table of the last records; None asleep."""
        return table_in(last_records(self.state)) if self.is_awake() else None

    def number_at(self, place):
        """The number with this place from that of the records that stand on."""
        return self.stands + (place - self.stands) % turn_in(self.state[0][0])

    def kept_by_waking(self):
        """How many records waking will keep, asleep; awake, how many there are."""
        if self.is_awake():
            return len(self.row)
        shape, picture, _ = self.state[0]
        return self.number_at(answer_in(shape, picture))

    def deeds_within(self, many):
        """The deeds with all their records among the first many of the course."""
        return tuple([own for own in self.deeds if own[2] <= many])


def course_behind(shape, thing):
    """The course behind thing, if it is a story of shape, a safe one; else None."""
    if not isinstance(thing, tuple):
        return None
    course = Course(shape)
    for event in thing:
        if not course.go_on(event):
            return None
    return course


def checked_course(shape, story):
    """The course behind story; Unfit() and Unsafe() as checked_safe, then Unfit() if it is no story of shape."""
    course = course_behind(checked_safe(shape), as_tuples(story))
    if course is None:
        raise Unfit()
    return course
