"""The errors of the package; each keeps what it is made with under the same names."""


class NoCell(LookupError):
    """There is no such cell."""

    def __init__(self, cell):
        LookupError.__init__(self, f"no cell {cell!r}")
        self.cell = cell


class NoClient(LookupError):
    """No letter of this client is done."""

    def __init__(self, client):
        LookupError.__init__(self, f"no client {client!r}")
        self.client = client


class NoKey(LookupError):
    """There is no word on this key."""

    def __init__(self, key):
        LookupError.__init__(self, f"no key {key!r}")
        self.key = key


class NothingDone(LookupError):
    """There is nothing to take back, or to do once more."""

    def __init__(self):
        LookupError.__init__(self, "nothing done")


class Asleep(ValueError):
    """The power has gone, and nothing has been woken since."""

    def __init__(self):
        ValueError.__init__(self, "asleep")


class Awake(ValueError):
    """The power is on."""

    def __init__(self):
        ValueError.__init__(self, "awake")


class BadText(ValueError):
    """A line of a text, numbered from 0, is not as it must be."""

    def __init__(self, line):
        ValueError.__init__(self, f"bad text in line {line!r}")
        self.line = line


class CanNot(ValueError):
    """What is asked for is not there, or can not be done."""

    def __init__(self):
        ValueError.__init__(self, "it can not be")


class Full(ValueError):
    """There is no room."""

    def __init__(self):
        ValueError.__init__(self, "no room")


class TooMany(ValueError):
    """There are too many to tell them all."""

    def __init__(self):
        ValueError.__init__(self, "too many")


class Unfit(ValueError):
    """A value is not of the kind that is asked for."""

    def __init__(self):
        ValueError.__init__(self, "not such a value")


class Unsafe(ValueError):
    """The shape is not safe."""

    def __init__(self):
        ValueError.__init__(self, "not a safe shape")
