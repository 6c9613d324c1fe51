"""Stories: deeds, cuts and wakings one behind the other, and what is kept of them."""

from halfring.courses import checked_course, course_behind
from halfring.shapes import checked_safe


def is_story(shape, thing):
    """Whether thing is a story of shape."""
    return course_behind(checked_safe(shape), thing) is not None


def played(shape, story):
    """The pair (table, device) behind story, table None asleep."""
    course = checked_course(shape, story)
    return course.table(), course.state[0]


def tables_of(shape, story):
    """For each event the table behind it, None asleep."""
    return checked_course(shape, story).tables


def refused(shape, story):
    """The set of the numbers of the events that are deeds refused."""
    return checked_course(shape, story).refusals


def kept(shape, story):
    """The set of the numbers of the events that are deeds kept; asleep those that waking will keep."""
    course = checked_course(shape, story)
    return tuple([number for number, _, _ in course.deeds_within(course.kept_by_waking())])


def standing(shape, story):
    """The pair of how many records of the course stand and how many there are; asleep as when the power went."""
    course = checked_course(shape, story)
    return course.stands, len(course.row)
