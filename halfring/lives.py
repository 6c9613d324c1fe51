"""Lives, event by event: what is given is known to be as it must be, but for what may be no life.

A state is a pair (device, place): place that of the next record, None while the power is gone."""

from halfring.flights import fallen_in, flown_in, is_fates_row
from halfring.records import is_record
from halfring.ring import answer_in, blank_picture, mending_in, turn_in, write_in
from halfring.values import is_natural, is_row


def is_event(thing):
    """Whether thing is an event of a life, however many fates it has."""
    if thing == ("sync",) or thing == ("wake",):
        return True
    if is_row(thing, 2):
        return thing[0] == "write" and is_record(thing[1]) or thing[0] == "cut" and is_fates_row(thing[1])
    return is_row(thing, 3) and thing[0] == "mend" and is_natural(thing[1]) and is_fates_row(thing[2])


def first_state(shape):
    """The state at the beginning."""
    return (shape, blank_picture(shape), ()), 0


def state_behind(shape, thing):
    """The state behind thing, if it is a life of shape; else None."""
    if not isinstance(thing, tuple):
        return None
    state = first_state(shape)
    for event in thing:
        if not is_event(event):
            return None
        state = state_after(state, event)
        if state is None:
            return None
    return state


def state_after(state, event):
    """The state behind event; None if it can not come there."""
    device, place = state
    if event[0] == "mend" or event[0] == "wake":
        return mended_state(device, event) if place is None else None
    if place is None:
        return None
    if event[0] == "write":
        return written_state(device, place, event[1])
    if event[0] == "sync":
        return synced_device(device), place
    return cut_state(device, event[1])


def written_state(device, place, record):
    """The state behind writing record, all in flight synced ahead if no more can be."""
    shape, _, flight = device
    if len(flight) == shape[1]:
        device = synced_device(device)
    shape, picture, flight = device
    return (shape, picture, flight + (write_in(shape, place, record),)), (place + 1) % turn_in(shape)


def synced_device(device):
    """The device with all of flight in its picture."""
    shape, picture, flight = device
    return shape, flown_in(picture, flight), ()


def cut_state(device, fates):
    """The state behind a cut; None if fates are not as many as the writes in flight."""
    shape, picture, flight = device
    if len(fates) != len(flight):
        return None
    return (shape, fallen_in(picture, flight, fates), ()), None


def mended_state(device, event):
    """The state behind a mend or a wake of device, nothing in flight; None if it can not come there."""
    shape, picture, _ = device
    place = answer_in(shape, picture)
    if place is None:
        return None
    writes = mending_in(shape, picture, place)
    if event[0] == "wake":
        return (shape, flown_in(picture, writes), ()), place
    _, many, fates = event
    if many > len(writes):
        return None
    return cut_state((shape, picture, writes[:many]), fates)
