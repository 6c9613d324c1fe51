"""One judge: demands, the papers against those that fall, and the reasons for those that stand."""

from halfring.courses import course_behind
from halfring.devices import is_picture_in
from halfring.examiner import can_lie, is_life_to, is_reason, life_to, reason
from halfring.fits import fits, is_fit, is_right, right_for
from halfring.flights import is_fates_row
from halfring.outcomes import MOST_TO_TELL, fates_for, outcomes, waking
from halfring.records import is_table
from halfring.ring import is_safe_ring, turn_in
from halfring.shapes import is_place_in, is_shape
from halfring.threelives import is_three_lives, three_lives
from halfring.values import checked, is_number, is_row, is_row_of


def is_demand(thing):
    """Whether thing is a demand."""
    if is_row(thing, 2):
        return thing[0] == "safe" and is_shape(thing[1])
    if is_row(thing, 3):
        return thing[0] == "can" and is_shape(thing[1]) and is_picture_in(thing[1], thing[2])
    if not is_row(thing, 4) or not is_shape(thing[1]):
        return False
    word, shape, whole, asked = thing
    if word == "right":
        return is_picture_in(shape, whole) and is_place_in(shape, asked) and can_lie(shape, whole)
    return word == "comes" and is_safe_ring(shape) and is_story_to_cut(shape, whole) and is_table(asked)


def is_so(demand):
    """Whether demand stands."""
    return stands(checked(is_demand, demand))


def paper_against(demand):
    """A paper against demand; None if it stands."""
    demand = checked(is_demand, demand)
    if stands(demand):
        return None
    word, shape = demand[0], demand[1]
    if word == "safe":
        return three_lives(shape)
    if word == "can":
        return reason(shape, demand[2])
    if word == "right":
        return [fit for fit in fits(shape, demand[2]) if is_fit_against(demand, fit)][0]
    return outcomes(shape, demand[2])


def is_paper_against(demand, thing):
    """Whether thing is a paper against demand."""
    demand = checked(is_demand, demand)
    if stands(demand):
        return False
    word, shape = demand[0], demand[1]
    if word == "safe":
        return is_three_lives(shape, thing)
    if word == "can":
        return is_reason(shape, demand[2], thing)
    if word == "right":
        return is_fit(shape, demand[2], thing) and is_fit_against(demand, thing)
    return thing == outcomes(shape, demand[2])


def reason_for(demand):
    """A reason for demand; None if it does not stand."""
    demand = checked(is_demand, demand)
    if not stands(demand):
        return None
    word, shape = demand[0], demand[1]
    if word == "safe":
        return room_to_spare(shape)
    if word == "can":
        return life_to(shape, demand[2])
    if word == "right":
        return fits(shape, demand[2])
    return fates_for(shape, demand[2], demand[3])


def is_reason_for(demand, thing):
    """Whether thing is a reason for demand."""
    demand = checked(is_demand, demand)
    if not stands(demand):
        return False
    word, shape = demand[0], demand[1]
    if word == "safe":
        return is_number(thing) and thing == room_to_spare(shape)
    if word == "can":
        return is_life_to(shape, demand[2], thing)
    if word == "right":
        return is_all_fits(shape, demand[2], thing)
    return tells(demand, thing)


def first_fallen(demands):
    """The number of the first of demands that does not stand; None if all stand."""
    for number, demand in enumerate(checked(is_demands, demands)):
        if not stands(demand):
            return number
    return None


def is_demands(thing):
    """Whether thing is a tuple of demands."""
    return is_row_of(is_demand, thing)


def is_story_to_cut(shape, thing):
    """Whether thing is a story of shape, a safe one, awake at its end, with few enough writes in flight to tell all."""
    course = course_behind(shape, thing)
    return course is not None and course.is_awake() and len(course.state[0][2]) <= MOST_TO_TELL


def stands(demand):
    """Whether demand, a demand, stands."""
    word, shape = demand[0], demand[1]
    if word == "safe":
        return is_safe_ring(shape)
    if word == "can":
        return can_lie(shape, demand[2])
    if word == "right":
        return is_right(shape, demand[2], demand[3])
    return demand[3] in outcomes(shape, demand[2])


def room_to_spare(shape):
    """How many more places there are than three times the writes in flight."""
    return turn_in(shape) - 3 * shape[1]


def is_fit_against(demand, fit):
    """Whether the place that demand says to be right is not right for fit, a fit of its picture."""
    _, shape, picture, place = demand
    return place not in right_for(shape, picture, fit)


def is_all_fits(shape, picture, thing):
    """Whether thing is the set of all fits of picture."""
    # A pair of other kinds may be equal to one of numbers.
    if not isinstance(thing, tuple) or not all([is_fit(shape, picture, part) for part in thing]):
        return False
    return thing == fits(shape, picture)


def tells(demand, thing):
    """Whether thing are fates with which waking tells the table that demand says to come."""
    _, shape, story, table = demand
    many = len(course_behind(shape, story).state[0][2])
    return is_fates_row(thing) and len(thing) == many and waking(shape, story, thing) == table
