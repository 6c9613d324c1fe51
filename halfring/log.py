"""Logs: devices on which records are written one behind the other, and the lives that lead to them."""

from halfring.devices import is_device
from halfring.errors import Asleep
from halfring.lives import first_state, last_records, state_behind, stood_in, synced_device, written_state
from halfring.records import is_record
from halfring.ring import least_flown, places_in, write_in
from halfring.shapes import is_place_in, is_shape
from halfring.values import checked, checked_for, is_row


def is_log(thing):
    """Whether thing is a log of some shape."""
    if not is_row(thing, 2) or not is_device(thing[0]):
        return False
    (shape, picture, flight), place = thing
    if not is_place_in(shape, place):
        return False
    first = stood_in(thing)
    rightly = tuple([write_in(shape, first + at, content[1]) for at, (_, content) in enumerate(flight)])
    # That the rest lies as it must is to say that first is a fit with nothing flown.
    return flight == rightly and least_flown(shape, places_in(shape, picture), first) == 0


def begun_log(shape):
    """The log at the beginning."""
    return first_state(checked(is_shape, shape))


def logged(log, record):
    """The log with record written."""
    device, place = checked(is_log, log)
    return written_state(device, place, checked(is_record, record))


def log_synced(log):
    """The log with all synced."""
    device, place = checked(is_log, log)
    return synced_device(device), place


def records_of(log):
    """The last records, as many as the window has, the eldest first."""
    return last_records(checked(is_log, log))


def stood(log):
    """The place of the first record in flight, that of the next one without any."""
    return stood_in(checked(is_log, log))


def is_life(shape, thing):
    """Whether thing is a life of shape."""
    return is_life_in(checked(is_shape, shape), thing)


def is_life_in(shape, thing):
    """Whether thing is a life of shape, a shape."""
    return state_behind(shape, thing) is not None


def checked_life(shape, life):
    """The shape and the life of it; Unfit() if one is none."""
    shape = checked(is_shape, shape)
    return shape, checked_for(is_life_in, shape, life)


def device_behind(shape, life):
    """The device behind life."""
    shape, life = checked_life(shape, life)
    return state_behind(shape, life)[0]


def log_behind(shape, life):
    """The log behind life."""
    shape, life = checked_life(shape, life)
    state = state_behind(shape, life)
    if state[1] is None:
        raise Asleep()
    return state
