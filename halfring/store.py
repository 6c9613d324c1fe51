"""The store: words by keys on a ring of cells."""

from halfring.carrying import has_room_in, writes_in
from halfring.errors import Asleep, Awake, Full, NoKey, Unfit
from halfring.flights import is_fates_row
from halfring.lives import all_written, first_state, is_event, last_records, state_after
from halfring.meaning import table_in
from halfring.records import is_deed, is_key
from halfring.shapes import checked_safe
from halfring.values import checked


class Store:
    """A store of keys on a ring of one shape.

    Its state is a pair (device, place), place that of the next record, None while the power is gone."""

    def __init__(self, shape):
        self.state = first_state(checked_safe(shape))

    def put(self, key, word):
        """Puts word on key."""
        self.do_deed(checked(is_deed, ("put", key, word)))

    def drop(self, key):
        """Drops key, be it there or not."""
        self.do_deed(checked(is_deed, ("drop", key)))

    def lot(self, deeds):
        """Does all of deeds, whole or not at all."""
        self.do_deed(checked(is_deed, ("lot", deeds)))

    def get(self, key):
        """The word on key."""
        key = checked(is_key, key)
        words = dict(self.table())
        if key not in words:
            raise NoKey(key)
        return words[key]

    def table(self):
        """The table."""
        return table_in(self.window())

    def kept(self):
        """How many keys it has."""
        return len(self.table())

    def has_room(self, deed):
        """Whether deed has room."""
        deed = checked(is_deed, deed)
        return has_room_in(self.window(), deed)

    def sync(self):
        """All that is in flight stands behind it."""
        self.must_be_awake()
        self.come(("sync",))

    def cut(self, fates):
        """The power goes."""
        fates = checked(is_fates_row, fates)
        self.must_be_awake()
        self.come(("cut", fates))

    def mend(self, many, fates):
        """The first many writes of mending are begun, and the power goes again."""
        fates = checked(is_fates_row, fates)
        self.must_be_asleep()
        self.come(("mend", many, fates))

    def wake(self):
        """Mending is done whole, and the next record is that of the answer."""
        self.must_be_asleep()
        self.come(("wake",))

    def is_awake(self):
        """Whether the power is on."""
        return self.state[1] is not None

    def device(self):
        """The device, awake or not."""
        return self.state[0]

    def log(self):
        """The log."""
        self.must_be_awake()
        return self.state

    def twin(self):
        """Another store like this one."""
        other = Store(self.state[0][0])
        other.state = self.state
        return other

    def __eq__(self, other):
        """Whether other is a store with one device, awake as this one, and then with one log."""
        return isinstance(other, Store) and self.state == other.state

    def do_deed(self, deed):
        """Writes what deed, a deed, needs; how many records these are."""
        writes = writes_in(self.window(), deed)
        if writes is None:
            raise Full()
        self.state = all_written(self.state, writes)
        return len(writes)

    def come(self, event):
        """Event comes, if it is one and can come now."""
        state = state_after(self.state, event) if is_event(event) else None
        if state is None:
            raise Unfit()
        self.state = state

    def window(self):
        """The last records, as many as the window has."""
        self.must_be_awake()
        return last_records(self.state)

    def must_be_awake(self):
        """Raises Asleep() if the power is gone."""
        if not self.is_awake():
            raise Asleep()

    def must_be_asleep(self):
        """Raises Awake() if the power is on."""
        if self.is_awake():
            raise Awake()
