"""Pictures, and what writes in flight do to them: what is given is known to be as it must be."""

TORN = ("torn",)
FATES = ("new", "old", "torn")


def fallen_in(picture, flight, fates):
    """The picture behind a cut: each write, one behind the other, as its fate says."""
    cells = list(picture)
    for (cell, content), fate in zip(flight, fates):
        cells[cell] = left_by(cells[cell], content, fate)
    return tuple(cells)


def left_by(stood, content, fate):
    """What a write of content with this fate leaves where stood is."""
    if fate == "new":
        return content
    if fate == "torn":
        return TORN
    return stood


def flown_in(picture, flight):
    """The picture with all of flight written."""
    return fallen_in(picture, flight, ("new",) * len(flight))


def is_fates_row(thing):
    """Whether thing is a tuple of fates, maybe ()."""
    return isinstance(thing, tuple) and all([fate in FATES for fate in thing])
