"""A server: letters of clients, each done once, and readers that look at the cells meanwhile."""

from halfring.errors import CanNot, NoCell, NoClient
from halfring.flights import flown_in
from halfring.readers import told
from halfring.records import is_deed, is_word, singles_in
from halfring.signs import word_of
from halfring.store import Store
from halfring.values import as_tuples, checked, is_below, is_natural


class Reader:
    """A reader: how many records stood when it began; by the cell its newest look, a pair (records begun beyond
    these, cell that it saw)."""

    def __init__(self, stood):
        self.stood = stood
        self.newest = {}


class Server:
    """A store to which clients send letters.

    begun counts the records begun since there is the server, lost ones too; given counts the tickets. readers has
    those by their tickets that began since the power was last gone."""

    def __init__(self, shape):
        self.store = Store(shape)
        self.begun = 0
        self.given = 0
        self.readers = {}

    def letter(self, client, number, deed):
        """Does deed, if it is the next one of this client and there is room; the answer to the letter."""
        client = checked(is_word, client)
        number = checked(is_letter_number, number)
        deed = checked(is_plain_deed, deed)
        last = dict(self.clients()).get(client, 0)
        if number <= last:
            return "done", number
        if number > last + 1:
            return "gap", last
        lot = ("lot", singles_in(deed) + (("put", "@" + client, word_of(number)),))
        if not self.store.has_room(lot):
            return "full", last
        self.begun += self.store.do_deed(lot)
        return "done", number

    def last(self, client):
        """The number of the last letter of client that is done."""
        client = checked(is_word, client)
        numbers = dict(self.clients())
        if client not in numbers:
            raise NoClient(client)
        return numbers[client]

    def clients(self):
        """The set of the pairs (client, number of its last letter) of all that have one."""
        return tuple([(key[1:], int(word)) for key, word in self.store.table() if key.startswith("@")])

    def table(self):
        """The table without the numbers of letters."""
        return plain_table(self.store.table())

    def sync(self):
        """All that is in flight stands behind it."""
        self.store.sync()

    def cut(self, fates):
        """The power goes."""
        self.store.cut(fates)
        self.readers = {}

    def mend(self, many, fates):
        """The first many writes of mending are begun, and the power goes again."""
        self.store.mend(many, fates)

    def wake(self):
        """Mending is done whole, and the next record is that of the answer."""
        self.store.wake()

    def is_awake(self):
        """Whether the power is on."""
        return self.store.is_awake()

    def device(self):
        """The device, awake or not."""
        return self.store.device()

    def log(self):
        """The log."""
        return self.store.log()

    def ticket(self):
        """A reader begins; its number."""
        (_, _, flight), _ = self.store.log()
        number = self.given
        self.readers[number] = Reader(self.begun - len(flight))
        self.given += 1
        return number

    def look(self, ticket, cell):
        """The reader looks at this cell; what it sees there."""
        reader = self.checked_reader(ticket)
        _, picture, flight = self.store.device()
        if not is_below(cell, len(picture)):
            raise NoCell(as_tuples(cell))
        content = flown_in(picture, flight)[cell]
        reader.newest[cell] = (self.begun - reader.stood, content)
        return content

    def looks(self, ticket):
        """Cell by cell how many records beyond those that stood had been begun at its look; None without one."""
        reader = self.checked_reader(ticket)
        shape, _, _ = self.store.device()
        return tuple([reader.newest[cell][0] if cell in reader.newest else None for cell in range(shape[0])])

    def told_by(self, ticket):
        """The table that the reader tells, without the numbers of letters."""
        looks = self.looks(ticket)
        shape, _, _ = self.store.device()
        if not all([many is not None and many <= shape[1] for many in looks]):
            raise CanNot()
        newest = self.readers[ticket].newest
        return plain_table(told(shape, tuple([newest[cell][1] for cell in range(shape[0])])))

    def checked_reader(self, ticket):
        """The reader with this ticket; CanNot() if there is none, or the power went since it began."""
        ticket = checked(is_natural, ticket)
        self.store.must_be_awake()
        if ticket not in self.readers:
            raise CanNot()
        return self.readers[ticket]


def is_letter_number(thing):
    """Whether thing is a number from 1."""
    return is_natural(thing) and thing >= 1


def is_plain_deed(thing):
    """Whether thing is a deed without keys with @."""
    return is_deed(thing) and not any([single[1].startswith("@") for single in singles_in(thing)])


def plain_table(table):
    """The table without keys with @."""
    return tuple([(key, word) for key, word in table if not key.startswith("@")])
