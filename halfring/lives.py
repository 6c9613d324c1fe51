"""Lives, event by event: what is given is known to be as it must be, but for what may be no life.

A state is a pair (device, place): place that of the next record, None while the power is gone."""

from halfring.flights import fallen_in, flown_in, is_fates_row
from halfring.records import BLANK, is_record
from halfring.ring import (answer_in, blank_picture, cell_in, mending_in, places_in, records_before, shows_in, turn_in,
                           write_in)
from halfring.values import is_natural, is_row


def is_event(thing):
    """Whether thing is an event of a life, however many fates it has."""
    if thing == ("sync",) or thing == ("wake",):
        return True
    if is_row(thing, 2):
        return thing[0] == "write" and is_record(thing[1]) or thing[0] == "cut" and is_fates_row(thing[1])
    return is_row(thing, 3) and thing[0] == "mend" and is_natural(thing[1]) and is_fates_row(thing[2])


def first_state(shape):
    """The state at the beginning."""
    return (shape, blank_picture(shape), ()), 0


def state_behind(shape, thing):
    """The state behind thing, if it is a life of shape; else None."""
    if not isinstance(thing, tuple):
        return None
    state = first_state(shape)
    for event in thing:
        if not is_event(event):
            return None
        state = state_after(state, event)
        if state is None:
            return None
    return state


def state_after(state, event):
    """The state behind event; None if it can not come there."""
    device, place = state
    if event[0] == "mend" or event[0] == "wake":
        return mended_state(device, event) if place is None else None
    if place is None:
        return None
    if event[0] == "write":
        return written_state(device, place, event[1])
    if event[0] == "sync":
        return synced_device(device), place
    return cut_state(device, event[1])


def stood_in(state):
    """The place of the first record in flight, that of the next one without any; the power is on."""
    (shape, _, flight), place = state
    return (place - len(flight)) % turn_in(shape)


def last_records(state):
    """The last records, as many as the window has, the eldest first, those in flight among them; the power is on."""
    (shape, picture, flight), place = state
    return records_before(shape, flown_in(picture, flight), place)


def ending_of(shape, thing):
    """The triple (picture, stood, fates) of thing, if it is a life of shape that ends with a cut; else None.

    picture is what it leaves, stood the place ahead of which all stood when the power went."""
    behind = state_behind(shape, thing)
    if behind is None or thing == () or thing[-1][0] != "cut":
        return None
    return behind[0][1], stood_in(state_behind(shape, thing[:-1])), thing[-1][1]


def life_leaving(shape, picture, number):
    """A life that ends with a cut, all in flight, all ahead of record number having stood, and leaves picture.

    The place of number has a fit, and no record but a blank one is shown with a number below 0."""
    shown = places_in(shape, picture)
    end = number + shape[1]
    writes = tuple([("write", record_shown(shape, picture, shown, own)) for own in range(end)])
    fates = tuple([fate_leaving(shape, shown, own) for own in range(number, end)])
    return writes[:number] + (("sync",),) + writes[number:] + (("cut", fates),)


def life_leaving_at(shape, picture, place):
    """A life that ends with a cut, all in flight, all ahead of place having stood, and leaves picture.

    place has a fit."""
    # From number K on each cell has been written, with whatever record it shows.
    return life_leaving(shape, picture, place if place >= shape[0] else place + turn_in(shape))


def record_shown(shape, picture, shown, number):
    """The record that picture shows as number; a blank one if it does not show it."""
    if not shows_in(shape, shown, number):
        return BLANK
    return picture[cell_in(shape, number)][1]


def fate_leaving(shape, shown, number):
    """The fate of record number in flight that leaves its cell as it is shown."""
    if shown[cell_in(shape, number)] is None:
        return "torn"
    return "old" if shows_in(shape, shown, number - shape[0]) else "new"


def written_state(device, place, record):
    """The state behind writing record, all in flight synced ahead if no more can be."""
    shape, _, flight = device
    if len(flight) == shape[1]:
        device = synced_device(device)
    shape, picture, flight = device
    return (shape, picture, flight + (write_in(shape, place, record),)), (place + 1) % turn_in(shape)


def all_written(state, records):
    """The state behind writing all records, one behind the other; the power is on."""
    for record in records:
        state = written_state(state[0], state[1], record)
    return state


def synced_device(device):
    """The device with all of flight in its picture."""
    shape, picture, flight = device
    return shape, flown_in(picture, flight), ()


def cut_state(device, fates):
    """The state behind a cut; None if fates are not as many as the writes in flight."""
    shape, picture, flight = device
    if len(fates) != len(flight):
        return None
    return (shape, fallen_in(picture, flight, fates), ()), None


def mended_state(device, event):
    """The state behind a mend or a wake of device, nothing in flight; None if it can not come there."""
    shape, picture, _ = device
    place = answer_in(shape, picture)
    if place is None:
        return None
    writes = mending_in(shape, picture, place)
    if event[0] == "wake":
        return (shape, flown_in(picture, writes), ()), place
    _, many, fates = event
    if many > len(writes):
        return None
    return cut_state((shape, picture, writes[:many]), fates)
