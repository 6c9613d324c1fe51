"""Devices: pictures with writes in flight, and what a cut can leave of them."""

from halfring.errors import CanNot, NoCell, TooMany
from halfring.flights import FATES, TORN, fallen_in, flown_in, is_fates_row
from halfring.records import is_record
from halfring.ring import blank_picture, places_in
from halfring.shapes import is_shape
from halfring.values import checked, checked_for, is_below, is_natural, is_number, is_row, is_row_of

MOST_TO_TELL = 8


def is_cell(shape, thing):
    """Whether thing is a cell of shape."""
    return is_cell_in(checked(is_shape, shape), thing)


def is_picture(shape, thing):
    """Whether thing is a picture of shape."""
    return is_picture_in(checked(is_shape, shape), thing)


def is_device(thing):
    """Whether thing is a device."""
    if not is_row(thing, 3) or not is_shape(thing[0]):
        return False
    shape, picture, flight = thing
    if not is_picture_in(shape, picture) or not isinstance(flight, tuple):
        return False
    return len(flight) <= shape[1] and all([is_write_in(shape, write) for write in flight])


def is_fates(device, thing):
    """Whether thing are fates, one for each write in flight."""
    return is_fates_in(checked(is_device, device), thing)


def is_written_cell(thing):
    """Whether thing is a cell, not torn, of some shape."""
    return is_row(thing, 2) and is_natural(thing[0]) and is_record(thing[1])


def is_content_in(shape, thing):
    """Whether thing is a cell of shape, a shape, that is not torn."""
    return is_written_cell(thing) and thing[0] < shape[2]


def is_cell_in(shape, thing):
    """Whether thing is a cell of shape, a shape."""
    return thing == TORN or is_content_in(shape, thing)


def is_picture_in(shape, thing):
    """Whether thing is a picture of shape, a shape."""
    return is_row(thing, shape[0]) and all([is_cell_in(shape, part) for part in thing])


def is_write_in(shape, thing):
    """Whether thing is a write of shape, a shape: a pair (number of a cell, cell not torn)."""
    return is_row(thing, 2) and is_below(thing[0], shape[0]) and is_content_in(shape, thing[1])


def is_fates_in(device, thing):
    """Whether thing are fates for device, a device."""
    return is_fates_row(thing) and len(thing) == len(device[2])


def is_some_cell(thing):
    """Whether thing is a cell of some shape."""
    return thing == TORN or is_written_cell(thing)


def is_some_picture(thing):
    """Whether thing is a picture of some shape."""
    return is_row_of(is_some_cell, thing) and len(thing) >= 2


def checked_picture(shape, picture):
    """The shape and the picture of it; Unfit() if one is none."""
    shape = checked(is_shape, shape)
    return shape, checked_for(is_picture_in, shape, picture)


def checked_shown(shape, picture):
    """The shape, and cell by cell the place that the picture of it shows; Unfit() if one is none."""
    shape, picture = checked_picture(shape, picture)
    return shape, places_in(shape, picture)


def blank_device(shape):
    """The device of the beginning."""
    shape = checked(is_shape, shape)
    return shape, blank_picture(shape), ()


def ordered(device, cell, content):
    """The device with this write behind all in flight."""
    shape, picture, flight = checked(is_device, device)
    cell = checked(is_number, cell)
    content = checked_for(is_content_in, shape, content)
    if not is_below(cell, shape[0]):
        raise NoCell(cell)
    if len(flight) == shape[1]:
        raise CanNot()
    return shape, picture, flight + ((cell, content),)


def view(device):
    """The picture with all of flight written."""
    _, picture, flight = checked(is_device, device)
    return flown_in(picture, flight)


def synced(device):
    """The device with all of flight in its picture."""
    shape, picture, flight = checked(is_device, device)
    return shape, flown_in(picture, flight), ()


def cut(device, fates):
    """The device behind a cut with these fates."""
    device = checked(is_device, device)
    shape, picture, flight = device
    return shape, fallen_in(picture, flight, checked_for(is_fates_in, device, fates)), ()


def cuts(device):
    """The pictures that a cut can leave, each once, in the order of the least fates that leave them."""
    _, picture, flight = checked(is_device, device)
    if len(flight) > MOST_TO_TELL:
        raise TooMany()
    pictures = [picture]
    for write in flight:
        # A picture that came ahead of an equal one came by lesser fates, so the first of equal ones is kept.
        left = [fallen_in(own, (write,), (fate,)) for own in pictures for fate in FATES]
        pictures = list({own: True for own in left})
    return pictures


def many_cuts(device):
    """How many pictures a cut can leave."""
    _, picture, flight = checked(is_device, device)
    many = 1
    for cell, stood in enumerate(picture):
        written = [content for other, content in flight if other == cell]
        if written != []:
            many *= len(set([stood, TORN, *written]))
    return many


def fates_to(device, picture):
    """The least fates that leave picture."""
    device = checked(is_device, device)
    wanted = checked_for(is_picture_in, device[0], picture)
    _, cells, flight = device
    if not can_leave(cells, flight, wanted):
        raise CanNot()
    fates = []
    for at, write in enumerate(flight):
        left = [(fate, fallen_in(cells, (write,), (fate,))) for fate in FATES]
        # Each write takes the least fate that leaves a way to what is wanted, whatever the later ones then are.
        fate, cells = [own for own in left if can_leave(own[1], flight[at + 1:], wanted)][0]
        fates.append(fate)
    return tuple(fates)


def can_leave(picture, flight, wanted):
    """Whether some fates of flight leave wanted of picture."""
    for cell, (stood, own) in enumerate(zip(picture, wanted)):
        written = [content for other, content in flight if other == cell]
        if own != stood and own not in written and (own != TORN or written == []):
            return False
    return True


def torn_in(picture):
    """The set of the numbers of the torn cells of picture."""
    picture = checked(is_some_picture, picture)
    return tuple([at for at, own in enumerate(picture) if own == TORN])
