"""Logs: devices on which records are written one behind the other, and the lives that lead to them."""

from halfring.devices import is_device
from halfring.errors import Asleep, Unfit
from halfring.flights import flown_in
from halfring.lives import first_state, state_behind, synced_device, written_state
from halfring.records import is_record
from halfring.ring import cell_in, least_flown, places_in, turn_in, window_in, write_in
from halfring.shapes import is_place_in, is_shape
from halfring.values import as_tuples, checked, is_row


def is_log(thing):
    """Whether thing is a log of some shape."""
    if not is_row(thing, 2) or not is_device(thing[0]):
        return False
    (shape, picture, flight), place = thing
    if not is_place_in(shape, place):
        return False
    first = first_in_flight(thing)
    rightly = tuple([write_in(shape, first + at, content[1]) for at, (_, content) in enumerate(flight)])
    # That the rest lies as it must is to say that first is a fit with nothing flown.
    return flight == rightly and least_flown(shape, places_in(shape, picture), first) == 0


def first_in_flight(log):
    """The place of the first record in flight, that of the next one without any."""
    (shape, _, flight), place = log
    return (place - len(flight)) % turn_in(shape)


def begun_log(shape):
    """The log at the beginning."""
    return first_state(checked(is_shape, shape))


def logged(log, record):
    """The log with record written."""
    device, place = checked(is_log, log)
    return written_state(device, place, checked(is_record, record))


def log_synced(log):
    """The log with all synced."""
    device, place = checked(is_log, log)
    return synced_device(device), place


def records_of(log):
    """The last records, as many as the window has, the eldest first."""
    (shape, picture, flight), place = checked(is_log, log)
    seen = flown_in(picture, flight)
    return tuple([seen[cell_in(shape, number)][1] for number in range(place - window_in(shape), place)])


def stood(log):
    """The place of the first record in flight, that of the next one without any."""
    return first_in_flight(checked(is_log, log))


def is_life(shape, thing):
    """Whether thing is a life of shape."""
    return state_behind(checked(is_shape, shape), thing) is not None


def checked_state(shape, life):
    """The pair (device, place) behind life, place None if the power has gone; Unfit() if it is no life of shape."""
    state = state_behind(checked(is_shape, shape), as_tuples(life))
    if state is None:
        raise Unfit()
    return state


def device_behind(shape, life):
    """The device behind life."""
    device, _ = checked_state(shape, life)
    return device


def log_behind(shape, life):
    """The log behind life."""
    state = checked_state(shape, life)
    if state[1] is None:
        raise Asleep()
    return state
