"""What can come of a story if the power goes just now and the ring is woken then."""

from halfring.courses import checked_course
from halfring.errors import Asleep, CanNot, TooMany, Unfit
from halfring.flights import is_fates_row
from halfring.lives import last_records, state_after
from halfring.meaning import table_in
from halfring.records import is_table, singles_in, table_with
from halfring.values import checked

MOST_TO_TELL = 8


def waking(shape, story, fates):
    """The table that waking tells behind a cut with these fates."""
    _, woken = checked_waking(shape, story, fates)
    return table_in(last_records(woken))


def outcomes(shape, story):
    """The set of the tables that waking tells behind a cut now, of all fates."""
    course = checked_course(shape, story)
    if len(course.state[0][2]) > MOST_TO_TELL:
        raise TooMany()
    return told_by_waking(course)


def first_parts(shape, story):
    """The set of the plain tables of the first n records, n from how many stand to how many there are."""
    course = checked_course(shape, story)
    if not course.is_awake():
        return told_by_waking(course)
    tables = [plain_table(course.deeds_within(many)) for many in range(course.stands, len(course.row) + 1)]
    return tuple(sorted(set(tables)))


def fates_for(shape, story, table):
    """Fates with which waking tells table."""
    course = checked_course(shape, story)
    table = checked(is_table, table)
    if not course.is_awake():
        raise Asleep()
    for fates in fates_to_tell(course):
        if table_woken(course, fates) == table:
            return fates
    raise CanNot()


def kept_with(shape, story, fates):
    """The set of the numbers of the events that are deeds kept by a waking behind a cut with these fates."""
    course, woken = checked_waking(shape, story, fates)
    return tuple([number for number, _, _ in course.deeds_within(course.number_at(woken[1]))])


def checked_waking(shape, story, fates):
    """The course behind story, and the state behind a cut with these fates and a waking."""
    course = checked_course(shape, story)
    fates = checked(is_fates_row, fates)
    if not course.is_awake():
        raise Asleep()
    if len(fates) != len(course.state[0][2]):
        raise Unfit()
    return course, woken_state(course, fates)


def woken_state(course, fates):
    """The state behind a cut of course, awake, with these fates and a waking."""
    return state_after(state_after(course.state, ("cut", fates)), ("wake",))


def table_woken(course, fates):
    """The table that waking tells behind a cut of course, awake, with these fates."""
    return table_in(last_records(woken_state(course, fates)))


def fates_to_tell(course):
    """Fates of a course awake with which waking keeps, one by one, each first part of it that it can keep.

    Whatever fates there are, it keeps what stands and the first so many in flight, and tells the table of these: the
    same as if just these had come."""
    many = len(course.state[0][2])
    return [("new",) * came + ("old",) * (many - came) for came in range(many + 1)]


def told_by_waking(course):
    """The set of the tables that waking tells, behind a cut of all fates if the power is on."""
    if course.is_awake():
        tables = [table_woken(course, fates) for fates in fates_to_tell(course)]
    else:
        tables = [table_in(last_records(state_after(course.state, ("wake",))))]
    return tuple(sorted(set(tables)))


def plain_table(deeds):
    """The table of deeds, as a course has them, done one after another."""
    table = ()
    for _, deed, _ in deeds:
        table = table_with(table, singles_in(deed))
    return table
