"""Point 22: a server."""

import copy
import unittest

from halfring.errors import Asleep, Awake, CanNot, NoCell, NoClient, Unfit, Unsafe
from halfring.log import begun_log
from halfring.server import Server
from halfring.store import Store
from tests.helper import (BLANK, JUNK, TORN, WRONG_DEEDS, WRONG_SHAPES, WRONG_WORDS, StoryByHand, all_shapes,
                          answer_by_hand, deed_of, depth_of, dice_of, is_safe_by_hand, lists, lists_at, refuses,
                          refuses_each, safe_shapes, table_by_hand, with_deeds_by_hand)
from tests.test_meaning import NO_NATURALS
from tests.test_store import NO_FATES_AT_ALL

RING = (12, 4, 2)
K, GONE = ("put", "k", "x"), ("drop", "k")
PAIR = ("lot", (("put", "m", "y"), ("drop", "k")))
ABC = tuple(("put", key, "x") for key in "abc")
WRONG_CLIENTS = WRONG_WORDS + JUNK[:4]
NO_NUMBERS = NO_NATURALS + (0, -1)
MARKED = (("put", "@k", "x"), ("drop", "@k"), ("lot", (K, ("drop", "@k"))), ("lot", (("put", "@k", "x"), K)))
WRONG_LETTER_DEEDS = WRONG_DEEDS + MARKED
FATES = ("new", "old", "torn")
# Each method with arguments with which it does not raise Unfit().
CALLS = {"letter": ("ann", 1, K), "last": ("ann",), "clients": (), "table": (), "sync": (), "cut": ((),), "log": (),
         "ticket": (), "look": (0, 0), "looks": (0,), "told_by": (0,)}


def begun():
    """A server with seven records, three in flight, and the last letters ann 2 and bob 1."""
    own = Server(RING)
    own.letter("ann", 1, K)
    own.letter("ann", 2, PAIR)
    own.letter("bob", 1, ("put", "n", "q"))
    return own


def looked():
    """That server with a reader that began and has looked at each cell, two letters behind each other meanwhile."""
    own = begun()
    own.ticket()
    for cell in range(6):
        own.look(0, cell)
    own.letter("bob", 2, ("put", "k", "w"))
    for cell in range(6, 12):
        own.look(0, cell)
    return own


def face(server):
    """All that a server tells without being changed, but for its readers."""
    if not server.is_awake():
        return server.device(), False
    lasts = [server.last(own) for own, _ in server.clients()]
    return server.device(), server.log(), server.table(), server.clients(), lasts


class TestLetters(unittest.TestCase):
    def test_at_the_beginning(self):
        for shape in safe_shapes(5, 3):
            own = Server(shape)
            self.assertEqual(face(own), (begun_log(shape)[0], begun_log(shape), (), (), []))
            self.assertIs(own.is_awake(), True)
        self.assertEqual(face(Server(list(RING))), face(Server(shape=RING)))

    def test_unsafe(self):
        for shape in all_shapes(7, 3):
            if not is_safe_by_hand(shape):
                refuses(self, Unsafe, Server, shape)
                refuses(self, Unsafe, Server, list(shape))
        refuses_each(self, Unfit, Server, (None,), 0, WRONG_SHAPES)

    def test_answers(self):
        own = Server(RING)
        self.assertEqual(own.letter("ann", 1, K), ("done", 1))
        self.assertEqual(own.letter("ann", 3, GONE), ("gap", 1))
        self.assertEqual(own.letter("ann", 10 ** 6, GONE), ("gap", 1))
        self.assertEqual(own.letter("bob", 2, GONE), ("gap", 0))
        before = face(own)
        for deed in (K, GONE, PAIR):
            self.assertEqual(own.letter("ann", 1, deed), ("done", 1))
        self.assertEqual(face(own), before)
        self.assertEqual(own.letter("ann", 2, PAIR), ("done", 2))
        self.assertEqual((own.letter("ann", 1, K), own.letter("ann", 2, K)), (("done", 1), ("done", 2)))
        self.assertEqual((own.table(), own.clients()), ((("m", "y"),), (("ann", 2),)))

    def test_what_is_written(self):
        own = begun()
        rows = [cell[1] for cell in own.device()[1][:4]], [write[1][1] for write in own.device()[2]]
        self.assertEqual(tuple(rows[0] + rows[1]), (
            ("put", "k", "x", 0, 1), ("put", "@ann", "1", 1, 0), ("put", "m", "y", 0, 2), ("drop", "k", 1, 1),
            ("put", "@ann", "2", 2, 0), ("put", "n", "q", 0, 1), ("put", "@bob", "1", 1, 0)))

    def test_forms(self):
        for depth in range(depth_of(PAIR)):
            own = Server(RING)
            given = lists_at(PAIR, depth)
            self.assertEqual(own.letter(deed=given, number=1, client="ann"), ("done", 1))
            self.assertEqual(given, lists_at(PAIR, depth))
            if depth == 0:
                given[1] = ()
            self.assertEqual(own.table(), (("m", "y"),))
            self.assertEqual(own.last(client="ann"), 1)

    def test_full(self):
        own = Server((6, 2, 2))
        self.assertEqual(own.letter("ann", 1, K), ("done", 1))
        before = face(own)
        for deed in (("put", "m", "x"), ("lot", (("put", "m", "x"), ("put", "n", "x"))), ("lot", (GONE, GONE, GONE))):
            self.assertEqual(own.letter("bob", 1, deed), ("full", 0))
            self.assertEqual(own.letter("ann", 2, ("lot", (("put", "m", "x"), ("put", "n", "x")))), ("full", 1))
            self.assertEqual(face(own), before)
        # The one put more is asked for room, too: the lot of three would have some, that of four has none.
        self.assertEqual(own.letter("bob", 2, ("put", "m", "x")), ("gap", 0))
        self.assertEqual(own.letter("ann", 2, GONE), ("done", 2))
        self.assertEqual(own.letter("bob", 1, GONE), ("done", 1))

    def test_the_longest_client_and_lot(self):
        own, client = Server((16, 3, 2)), "abcdefghijkl"
        deed = ("lot", tuple(("drop", key) for key in "abcdef"))
        for number in range(1, 12):
            self.assertEqual(own.letter(client, number, deed), ("done", number))
        self.assertEqual((own.last(client), own.clients(), own.table()), (11, ((client, 11),), ()))
        self.assertEqual(len(own.device()[2]), 2)

    def test_last(self):
        own = begun()
        self.assertEqual((own.last("ann"), own.last("bob")), (2, 1))
        for client in ("k", "c2", "m", "an", "ann1"):
            refuses(self, NoClient, own.last, client, client=client)

    def test_clients_ascend(self):
        own = Server(RING)
        for client in ("b", "a1", "a", "0"):
            own.letter(client, 1, GONE)
        self.assertEqual(own.clients(), (("0", 1), ("a", 1), ("a1", 1), ("b", 1)))

    def test_ten_is_more_than_nine(self):
        own = Server(RING)
        for number in range(1, 13):
            self.assertEqual(own.letter("ann", number, GONE), ("done", number))
            self.assertEqual(own.letter("ann", number + 2, GONE), ("gap", number))
        self.assertEqual(own.clients(), (("ann", 12),))


class TestReaders(unittest.TestCase):
    def test_tickets(self):
        own = Server(RING)
        self.assertEqual([own.ticket() for _ in range(3)], [0, 1, 2])
        own.cut(())
        own.wake()
        self.assertEqual(own.ticket(), 3)
        self.assertEqual(own.looks(3), (None,) * 12)
        for ticket in (0, 1, 2, 4, 10 ** 6):
            for function, more in ((own.look, (0,)), (own.looks, ()), (own.told_by, ())):
                refuses(self, CanNot, function, ticket, *more)

    def test_look(self):
        own = begun()
        own.ticket()
        self.assertEqual(own.look(ticket=0, cell=6), (0, ("put", "@bob", "1", 1, 0)))
        self.assertEqual(own.look(0, 11), (1, BLANK))
        self.assertEqual(own.looks(ticket=0), (None,) * 6 + (3,) + (None,) * 4 + (3,))
        own.letter("bob", 2, GONE)
        self.assertEqual(own.look(0, 7), (0, ("drop", "k", 0, 1)))
        self.assertEqual(own.look(0, 6), (0, ("put", "@bob", "1", 1, 0)))
        self.assertEqual(own.looks(0)[6:8], (5, 5))
        # What stood and was in flight is told as it was when the reader began.
        own.sync()
        self.assertEqual(own.ticket(), 1)
        own.look(1, 0)
        own.look(0, 0)
        self.assertEqual((own.looks(1)[0], own.looks(0)[0]), (0, 5))

    def test_carried_records_count(self):
        own = Server((6, 1, 2))
        self.assertEqual([own.letter("a", number, GONE) for number in (1, 2)], [("done", 1), ("done", 2)])
        own.letter("b", 1, GONE)
        own.ticket()
        self.assertEqual(own.log()[1], 6)
        own.letter("b", 2, GONE)
        own.letter("b", 3, GONE)
        self.assertEqual(own.log()[1], 11)
        own.look(0, 3)
        self.assertEqual(own.looks(0)[3], 6)

    def test_no_cell(self):
        own = looked()
        own.look(0, 0)
        before = own.looks(0)
        for cell in (-1, 12, 10 ** 6, None, True, False, "0", 1.0, (), ("x", (1,)), b"0"):
            refuses(self, NoCell, own.look, 0, cell, cell=cell)
            refuses(self, CanNot, own.look, 1, cell)
        refuses(self, NoCell, own.look, 0, [1, [2]], cell=(1, (2,)))
        self.assertEqual(own.looks(0), before)

    def test_told_by(self):
        own = looked()
        self.assertEqual(own.looks(0), (3,) * 6 + (5,) * 6)
        refuses(self, CanNot, own.told_by, 0)
        own = begun()
        own.sync()
        own.ticket()
        for cell in range(1, 12):
            own.look(0, cell)
            refuses(self, CanNot, own.told_by, 0)
        own.look(0, 0)
        self.assertEqual(own.told_by(ticket=0), (("m", "y"), ("n", "q")))

    def test_looks_that_came_too_late(self):
        """With four in flight at the most a look at 4 is in time, one at 5 is not."""
        own = Server((16, 4, 2))
        own.letter("ann", 1, K)
        own.sync()
        own.letter("ann", 2, ABC[0])
        for ticket in (own.ticket(), own.ticket()):
            for cell in range(16):
                own.look(ticket, cell)
        table = (("a", "x"), ("k", "x"))
        self.assertEqual((own.told_by(0), own.looks(0)), (table, (2,) * 16))
        own.letter("ann", 3, GONE)
        own.look(0, 9)
        self.assertEqual((own.looks(0)[9], own.told_by(0)), (4, table))
        own.letter("ann", 4, ("lot", (GONE, GONE)))
        self.assertEqual(own.told_by(0), table)
        own.look(1, 9)
        self.assertEqual(own.looks(1)[9], 7)
        refuses(self, CanNot, own.told_by, 1)
        self.assertEqual(own.ticket(), 2)
        for cell in range(16):
            own.look(2, cell)
        self.assertEqual((own.looks(2)[0], own.told_by(2)), (3, (("a", "x"),)))
        own.letter("ann", 5, GONE)
        own.look(2, 3)
        self.assertEqual(own.looks(2)[3], 5)
        refuses(self, CanNot, own.told_by, 2)

    def test_the_newest_look_counts(self):
        own = begun()
        own.sync()
        own.ticket()
        for cell in range(12):
            own.look(0, cell)
        own.letter("ann", 3, ABC[0])
        self.assertEqual(own.told_by(0), (("m", "y"), ("n", "q")))
        for cell in range(12):
            own.look(0, cell)
        self.assertEqual(own.looks(0), (2,) * 12)
        self.assertEqual(own.told_by(0), (("a", "x"), ("m", "y"), ("n", "q")))

    def test_what_it_told_does_not_change(self):
        own = looked()
        told = (face(own), own.looks(0), own.look(0, 7))
        kept = copy.deepcopy(told)
        own.letter("ann", 3, ABC[1])
        own.look(0, 1)
        own.cut(("new",) * 4)
        own.wake()
        self.assertEqual(told, kept)

    def test_behind_a_cut(self):
        own = looked()
        device = own.device()
        refuses(self, Unfit, own.cut, ("new",) * 2)
        self.assertEqual(own.device(), device)
        # The cut that could not be has ended no reader.
        self.assertEqual(own.looks(0), (3,) * 6 + (5,) * 6)
        own.cut(("new",) * len(device[2]))
        refuses(self, Asleep, own.looks, 0)
        own.wake()
        for function, more in ((own.look, (0,)), (own.look, (99,)), (own.looks, ()), (own.told_by, ())):
            refuses(self, CanNot, function, 0, *more)
        own.ticket()
        self.assertEqual(own.looks(1), (None,) * 12)


class TestPower(unittest.TestCase):
    def test_asleep(self):
        own = looked()
        own.cut(("new",) * len(own.device()[2]))
        before = face(own)
        for name, args in CALLS.items():
            refuses(self, Asleep, getattr(own, name), *args)
        for name, args in (("letter", ("zed", 9, PAIR)), ("last", ("zed",)), ("cut", (("new",),)), ("look", (9, None)),
                           ("looks", (9,)), ("told_by", (9,))):
            refuses(self, Asleep, getattr(own, name), *args)
        self.assertEqual(face(own), before)
        self.assertIsNone(own.mend(many=0, fates=[]))
        for many, fates in ((1, ()), (99, ("new",) * 99), (None, ()), (True, ("new",))):
            refuses(self, Unfit, own.mend, many, fates)
        self.assertIsNone(own.wake())
        self.assertIs(own.is_awake(), True)

    def test_awake(self):
        own = begun()
        before = face(own)
        refuses(self, Awake, own.wake)
        for many in (0, None, -1, 5):
            refuses(self, Awake, own.mend, many, ())
        self.assertEqual(face(own), before)

    def test_unfit(self):
        asleep = begun()
        asleep.cut(("new",) * 3)
        for own in (looked(), asleep):
            before = face(own)
            refuses_each(self, Unfit, own.letter, (None, 1, K), 0, WRONG_CLIENTS)
            refuses_each(self, Unfit, own.letter, ("ann", None, K), 1, NO_NUMBERS)
            refuses_each(self, Unfit, own.letter, ("ann", 3, None), 2, WRONG_LETTER_DEEDS)
            refuses_each(self, Unfit, own.letter, ("ann", 1, None), 2, WRONG_LETTER_DEEDS)
            refuses_each(self, Unfit, own.last, (None,), 0, WRONG_CLIENTS)
            refuses_each(self, Unfit, own.cut, (None,), 0, NO_FATES_AT_ALL)
            refuses_each(self, Unfit, own.mend, (None, None), 1, NO_FATES_AT_ALL)
            for function, more in ((own.look, (99,)), (own.looks, ()), (own.told_by, ())):
                refuses_each(self, Unfit, function, (None, *more), 0, NO_NATURALS)
            self.assertEqual(face(own), before)

    def test_cut_and_wake(self):
        own = begun()
        self.assertIsNone(own.sync())
        self.assertEqual(own.letter("ann", 3, ("drop", "m")), ("done", 3))
        self.assertIsNone(own.cut(fates=["new", "torn"]))
        self.assertIs(own.is_awake(), False)
        self.assertIsNone(own.mend(0, ()))
        self.assertIsNone(own.wake())
        self.assertEqual((own.last("ann"), own.table()), (2, (("m", "y"), ("n", "q"))))
        self.assertEqual(own.letter("ann", 4, GONE), ("gap", 2))
        self.assertEqual(own.letter("ann", 3, ("drop", "m")), ("done", 3))
        self.assertEqual(own.table(), (("n", "q"),))

    def test_as_those_of_a_store(self):
        own, store = begun(), Store(RING)
        for parts in ((K, ("put", "@ann", "1")), PAIR[1] + (("put", "@ann", "2"),),
                      (("put", "n", "q"), ("put", "@bob", "1"))):
            store.lot(parts)
        self.assertEqual((own.device(), own.log()), (store.device(), store.log()))
        for name, args in (("sync", ()), ("cut", ((),)), ("mend", (0, ())), ("wake", ())):
            self.assertEqual(getattr(own, name)(*args), getattr(store, name)(*args))
            self.assertEqual((own.device(), own.is_awake()), (store.device(), store.is_awake()))
        self.assertEqual(own.log(), store.log())


class ServedByHand:
    """A server as it goes on: a story of lots, which letter each of them was, and readers who look."""

    def __init__(self, shape):
        self.story = StoryByHand(shape)
        self.letters = {}
        self.total = 0
        self.readers = {}
        self.given = 0

    def table(self):
        """The whole table of the deeds that were not lost."""
        return self.story.plain(self.story.begun)

    def done(self):
        """The letters done and not lost, in order."""
        return [self.letters[number] for number, _, _ in self.story.deeds]

    def last(self, client):
        """How many letters of client are done."""
        return len([own for own in self.done() if own[0] == client])

    def letter(self, client, number, deed):
        """What the server answers."""
        last = self.last(client)
        if number <= last:
            return "done", number
        if number > last + 1:
            return "gap", last
        parts = deed[1] if deed[0] == "lot" else (deed,)
        self.letters[len(self.story.story)] = (client, number, deed)
        before = self.story.begun
        if not self.story.deed(("lot", parts + (("put", "@" + client, str(number)),))):
            return "full", last
        self.total += self.story.begun - before
        for reader in self.readers.values():
            reader["moments"].append(self.plain())
        return "done", number

    def plain(self):
        """The table without the numbers of letters: that of the letters done, one after another."""
        return with_deeds_by_hand((), [deed for _, _, deed in self.done()])

    def ticket(self):
        """A reader begins."""
        flight = len(self.story.flight)
        size = self.story.shape[0] - self.story.shape[1]
        rows = [tuple(self.story.records.get(number, BLANK) for number in range(end - size, end))
                for end in range(self.story.stands, self.story.begun + 1)]
        plain = [tuple(pair for pair in table_by_hand(row) if pair[0][0] != "@") for row in rows]
        self.readers[self.given] = {"stood": self.total - flight, "looks": {}, "moments": plain}
        self.given += 1
        return self.given - 1

    def look(self, ticket, cell):
        """What a reader sees."""
        device = self.story.device()
        content = device[1][cell]
        for other, written in device[2]:
            content = written if other == cell else content
        self.readers[ticket]["looks"][cell] = (self.total - self.readers[ticket]["stood"], content)
        return content

    def looks(self, ticket):
        """Its looks."""
        own = self.readers[ticket]["looks"]
        return tuple(own[cell][0] if cell in own else None for cell in range(self.story.shape[0]))

    def told_by(self, ticket):
        """What it tells; None if it can not."""
        shape, looks = self.story.shape, self.looks(ticket)
        if None in looks or max(looks) > shape[1]:
            return None
        picture = [self.readers[ticket]["looks"][cell][1] for cell in range(shape[0])]
        place = answer_by_hand(shape, picture)
        row = [picture[number % shape[0]][1] for number in range(place - shape[0] + shape[1], place)]
        return tuple(pair for pair in table_by_hand(row) if pair[0][0] != "@")


class TestByHand(unittest.TestCase):
    """The guarantees, beside a server played by hand and plain tables of the letters done and not lost."""

    def check(self, own, by_hand):
        story = by_hand.story
        self.assertEqual((own.device(), own.is_awake()), (story.device(), story.awake))
        if not story.awake:
            return
        done = by_hand.done()
        for client, number, _ in done:
            self.assertEqual(own.last(client), by_hand.last(client))
        for client in {letter[0] for letter in done}:
            numbers = [number for own, number, _ in done if own == client]
            self.assertEqual(numbers, list(range(1, len(numbers) + 1)))
        self.assertEqual(own.clients(), tuple(sorted({(letter[0], by_hand.last(letter[0])) for letter in done})))
        self.assertEqual(own.table(), by_hand.plain())
        self.assertEqual(own.log(), (story.device(), story.begun % story.turn()))
        for ticket in by_hand.readers:
            self.assertEqual(own.looks(ticket), by_hand.looks(ticket))
            told = by_hand.told_by(ticket)
            if told is None:
                refuses(self, CanNot, own.told_by, ticket)
            else:
                self.assertEqual(own.told_by(ticket), told)
                self.assertIn(told, by_hand.readers[ticket]["moments"])

    def power(self, dice, own, by_hand):
        """The power goes, mending is cut off now and then, and the server is woken."""
        before = by_hand.done()
        fates = tuple(dice.choice(FATES) for _ in by_hand.story.flight)
        synced = [own for own, (_, _, end) in zip(before, by_hand.story.deeds) if end <= by_hand.story.stands]
        own.cut(fates)
        by_hand.story.cut(fates)
        by_hand.readers = {}
        while dice.random() < 0.5:
            self.check(own, by_hand)
            many = dice.randint(0, len(by_hand.story.mending()))
            fates = tuple(dice.choice(FATES) for _ in range(many))
            own.mend(many, fates)
            by_hand.story.mend(many, fates)
        own.wake()
        by_hand.story.wake()
        self.assertEqual(by_hand.done(), before[:len(by_hand.done())])
        self.assertEqual(by_hand.done()[:len(synced)], synced)

    def step(self, dice, own, by_hand, keys, clients):
        """One more call by chance."""
        chance = dice.random()
        if chance < 0.06:
            self.power(dice, own, by_hand)
        elif chance < 0.12:
            self.assertIsNone(own.sync())
            by_hand.story.sync()
        elif chance < 0.18:
            self.assertEqual(own.ticket(), by_hand.ticket())
        elif chance < 0.7 and by_hand.readers:
            ticket = dice.choice(sorted(by_hand.readers))
            for _ in range(dice.choice((1, 2, by_hand.story.shape[0]))):
                cell = dice.randrange(by_hand.story.shape[0])
                self.assertEqual(own.look(ticket, cell), by_hand.look(ticket, cell))
        else:
            client = dice.choice(clients)
            number = max(1, by_hand.last(client) + dice.choice((1, 1, 1, 1, 0, -1, 2, 5)))
            deed = deed_of(dice, keys)
            answer = own.letter(client, number, deed)
            self.assertEqual(answer, by_hand.letter(client, number, deed))
            return answer[0]

    def play(self, dice, shape, most):
        own, by_hand = Server(shape), ServedByHand(shape)
        size = shape[0] - shape[1]
        clients = ("ann", "bob", "c3")[:max(1, min(3, size // 2 - 1))]
        keys = "abcdefgh"[:max(1, size - len(clients) - 1)]
        answers, told = [], 0
        for _ in range(most):
            answers.append(self.step(dice, own, by_hand, keys, clients))
            self.check(own, by_hand)
            told += len([own for own in by_hand.readers if by_hand.told_by(own) is not None])
        return answers, told

    def test_small_shapes(self):
        dice = dice_of(221)
        for shape in safe_shapes(8, 3):
            self.play(dice, shape, 40)

    def test_wide_shapes(self):
        dice = dice_of(222)
        answers, told = [], 0
        for shape in ((16, 10, 2), (16, 4, 2), (16, 8, 3), (12, 4, 2), (10, 3, 2), (16, 12, 5), (14, 6, 2)):
            for _ in range(2):
                more, readers = self.play(dice, shape, 150)
                answers, told = answers + more, told + readers
        for word in ("done", "gap", "full"):
            self.assertGreater(answers.count(word), 10, word)
        self.assertGreater(told, 60)

    def test_readers_that_are_quick_enough(self):
        """One that looks at each cell while some letters are done tells a table of that time."""
        dice = dice_of(223)
        told = 0
        for shape in ((16, 10, 2), (16, 5, 2), (12, 7, 2), (9, 5, 2), (16, 6, 5)) * 6:
            own, by_hand = Server(shape), ServedByHand(shape)
            for _ in range(15):
                self.step(dice, own, by_hand, "abc"[:max(1, shape[0] - shape[1] - 3)], ("ann",))
            ticket = own.ticket()
            self.assertEqual(by_hand.ticket(), ticket)
            cells = list(range(shape[0]))
            dice.shuffle(cells)
            for cell in cells:
                if dice.random() < 0.15:
                    letter = ("ann", by_hand.last("ann") + 1, ("drop", "a"))
                    self.assertEqual(own.letter(*letter), by_hand.letter(*letter))
                own.look(ticket, cell)
                by_hand.look(ticket, cell)
            self.check(own, by_hand)
            told += by_hand.told_by(ticket) is not None
        self.assertGreater(told, 10)

    def test_letters_sent_again(self):
        """Whatever is lost: if each client sends all letters behind its last one again, each is done once."""
        dice = dice_of(224)
        for shape in ((16, 6, 2), (14, 4, 2), (16, 6, 5)) * 4:
            own = Server(shape)
            letters = {client: [deed_of(dice, client + "xy") for _ in range(8)] for client in ("a", "b")}
            letters = {client: [deed if deed[0] != "lot" else ("lot", deed[1][:2]) for deed in row]
                       for client, row in letters.items()}
            while True:
                lasts = dict(own.clients())
                waiting = [client for client in letters if lasts.get(client, 0) < 8]
                if waiting == []:
                    break
                client = dice.choice(waiting)
                for number in range(lasts.get(client, 0) + 1, 9):
                    self.assertEqual(own.letter(client, number, letters[client][number - 1]), ("done", number))
                    if dice.random() < 0.3:
                        own.cut(tuple(dice.choice(FATES) for _ in own.device()[2]))
                        own.wake()
                        break
            self.assertEqual(own.clients(), (("a", 8), ("b", 8)))
            for client in letters:
                wanted = dict(with_deeds_by_hand((), letters[client]))
                self.assertEqual(dict(own.table()).get(client), wanted.get(client))

    def test_cells_that_a_cut_tore_are_seen_torn(self):
        own = begun()
        own.cut(("torn",) * 3)
        own.wake()
        own.ticket()
        self.assertEqual([own.look(0, cell) for cell in range(4, 7)], [TORN] * 3)
        self.assertEqual(lists(own.looks(0)), [None] * 4 + [0] * 3 + [None] * 5)


if __name__ == "__main__":
    unittest.main()
