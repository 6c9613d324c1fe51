"""What the tests share: values of all kinds, wrong ones, and calls in every form that the document allows."""

import copy
import random

TORN = ("torn",)
BLANK = ("blank",)
PUT = ("put", "a", "x", 0, 0)
DROP = ("drop", "a", 0, 0)

# No value that a name in capitals stands for is one of these.
JUNK = (None, True, False, 5, -1, "", "x", "blank", b"torn", 1.5, {}, {"a": "x"}, object, (), [], (None,), ("x",),
        (1, 2), [[1]], ((),), ("torn", "torn"), (("torn",),), ("put",), ("wake", 1))

WRONG_SHAPES = JUNK + ((5, 2), (5, 2, 2, 2), (1, 1, 2), (0, 0, 0), (5, 5, 2), (5, 0, 2), (5, -1, 2), (5, 2, 0),
                       (5, 2, -1), (5, True, 2), (5, 2, True), (5.0, 2, 2), ("5", 2, 2), (5, None, 2), ((5,), 2, 2))

WRONG_KEYS = (None, True, 5, "", "@", "A", "aA", "a b", "a-b", "@@a", "a@", "abcdefghijklm", "@abcdefghijklm",
              "a\n", b"a", ("a",), ["a"], "\u00e9", "\u0661", "\u0430")

WRONG_WORDS = WRONG_KEYS + ("@a",)

WRONG_RECORDS = JUNK + tuple(("put", key, "x", 0, 0) for key in WRONG_KEYS) + tuple(
    ("put", "a", word, 0, 0) for word in WRONG_WORDS) + tuple(("drop", key, 0, 0) for key in WRONG_KEYS) + (
    ("put", "a", "x"), ("drop", "a"), ("put", "a", "x", 0), ("drop", "a", 0), ("put", "a", "x", 0, 0, 0),
    ("drop", "a", "x", 0, 0), ("put", "a", 0, 0), ("put", "a", "x", -1, 0), ("put", "a", "x", 0, -1),
    ("put", "a", "x", True, 0), ("put", "a", "x", 0, False), ("put", "a", "x", "0", 0), ("put", "a", "x", 0, None),
    ("drop", "a", -1, 0), ("drop", "a", 0, -1), ("drop", "a", True, 0), ("drop", "a", 0, True), ("blank", 0, 0),
    ("blank", "a"), ("torn",), ("lot", (("put", "a", "x"), ("drop", "a"))), ("Put", "a", "x", 0, 0),
    (0, ("blank",)), (("blank",),))

WRONG_SINGLES = JUNK + tuple(("put", key, "x") for key in WRONG_KEYS) + tuple(
    ("put", "a", word) for word in WRONG_WORDS) + tuple(("drop", key) for key in WRONG_KEYS) + (
    ("put", "a"), ("drop", "a", "x"), ("put", "a", "x", 0, 0), ("drop", "a", 0, 0), ("blank",), ("get", "a"),
    ("lot", ()), ("lot", (("put", "a", "x"),)), (("drop", "a"),), ("put", "a", "x", "y"))

WRONG_DEEDS = WRONG_SINGLES + (
    ("lot",), ("lot", None), ("lot", ("put", "a", "x")), ("lot", (("put", "a", "x"), None)),
    ("lot", (("put", "a", "x"), ("drop", "B"))), ("lot", (("drop", "a"), ("drop", "a")), 0),
    ("lot", (("drop", "a"), ("lot", (("drop", "a"), ("drop", "b"))))), ("lot", (("drop", "a"), ("blank",))),
    ("lots", (("drop", "a"), ("drop", "b"))))

WRONG_TABLES = tuple(own for own in JUNK if own not in ((), [])) + (
    ("a", "x"), (("a",),), (("a", "x", "y"),), (("a", "x"), ("a", "x")), (("a", "x"), ("a", "y")),
    (("b", "x"), ("a", "x")), (("a", "X"),), (("A", "x"),), (("a", "x"), None), (("a", 5),), ((5, "a"),),
    (("@", "x"),), (("a", "@x"),), {("a", "x")}, (("0", "x"), ("a", "x"), ("@a", "x")))


def lists(value):
    """value with lists in the place of tuples at every depth."""
    if isinstance(value, (tuple, list)):
        return [lists(part) for part in value]
    return value


def tuples(value):
    """value with tuples in the place of lists at every depth."""
    if isinstance(value, (tuple, list)):
        return tuple(tuples(part) for part in value)
    return value


def lists_at(value, depth):
    """value with lists in the place of tuples at this one depth, tuples at all others."""
    if not isinstance(value, (tuple, list)):
        return value
    parts = [lists_at(part, depth - 1) for part in value]
    return parts if depth == 0 else tuple(parts)


def depth_of(value):
    """How deep tuples and lists are nested in value."""
    if not isinstance(value, (tuple, list)):
        return 0
    return 1 + max([depth_of(part) for part in value], default=0)


def outcome(function, args, named):
    """What a call gives: a repr of its result, or of its error with all its attributes."""
    try:
        return "returned " + repr(function(*args, **named))
    except Exception as error:
        return "raised " + repr((error.__class__, sorted(vars(error).items())))


def told(case, function, **named):
    """The result of function, which is the same by position, by names, again, and with lists at each depth.

    Arguments called thing are left as they are; nothing that is handed in is changed."""
    before = copy.deepcopy(named)
    first = outcome(function, tuple(named.values()), {})
    forms = [named]
    for name, value in named.items():
        if name != "thing":
            forms.append({**named, name: lists(value)})
            forms.extend({**named, name: lists_at(value, depth)} for depth in range(depth_of(value)))
    forms.append({name: value if name == "thing" else lists(value) for name, value in named.items()})
    for form in forms:
        kept = copy.deepcopy(form)
        case.assertEqual(outcome(function, (), form), first, (function.__name__, form))
        case.assertEqual(repr(form), repr(kept), "an argument was changed")
    case.assertEqual(repr(named), repr(before), "an argument was changed")
    return function(**named)


def refuses(case, error, function, *args, **attributes):
    """function raises just this error with these attributes, tuples in the place of lists."""
    try:
        result = function(*args)
    except Exception as raised:
        case.assertIs(raised.__class__, error, (function.__name__, args))
        case.assertEqual(repr(vars(raised)), repr(attributes), (function.__name__, args))
    else:
        case.fail(f"{function.__name__}{args} returned {result!r}, not {error.__name__}")


def refuses_each(case, error, function, args, at, wrongs):
    """function raises error if the argument number at is any of wrongs, or is so with lists."""
    for wrong in wrongs:
        for form in (wrong, lists(wrong)):
            refuses(case, error, function, *args[:at], form, *args[at + 1:])


def all_shapes(cells, marks):
    """All shapes with at most so many cells and marks."""
    return [(k, d, m) for k in range(2, cells + 1) for d in range(1, k) for m in range(1, marks + 1)]


def some_shape(dice, cells=6, marks=3):
    """A shape with at most so many cells and marks."""
    many = dice.randint(2, cells)
    return many, dice.randint(1, many - 1), dice.randint(1, marks)


def some_single(dice):
    """A put or a drop of one of a few keys."""
    key = dice.choice(("a", "b", "@c", "0"))
    return ("put", key, dice.choice(("x", "y"))) if dice.random() < 0.6 else ("drop", key)


def some_deed(dice):
    """A single, or a lot of two to four parts."""
    if dice.random() < 0.5:
        return some_single(dice)
    return "lot", tuple(some_single(dice) for _ in range(dice.randint(2, 4)))


def some_record(dice):
    """A record, often one by itself."""
    if dice.random() < 0.2:
        return BLANK
    row = dice.choice(((0, 0), (0, 0), (0, 1), (1, 0), (2, 1)))
    return some_single(dice) + row


def some_cell(dice, shape):
    """A cell of shape, now and then torn."""
    if dice.random() < 0.2:
        return TORN
    return dice.randrange(shape[2]), some_record(dice)


def some_device(dice, shape, full=False):
    """A device of shape, its writes anywhere."""
    cells, flight, marks = shape
    picture = tuple(some_cell(dice, shape) for _ in range(cells))
    many = flight if full else dice.randint(0, flight)
    row = tuple((dice.randrange(cells), (dice.randrange(marks), some_record(dice))) for _ in range(many))
    return shape, picture, row


def dice_of(seed):
    """Chance that is the same in each run."""
    return random.Random(seed)


# What follows is told anew, straight from the words of the document, and uses nothing of the package.


def shows_by_hand(shape, picture, number):
    """Whether picture shows number."""
    cells, _, marks = shape
    own = picture[number % cells]
    return own != TORN and own[0] == number // cells % marks


def whole_by_hand(shape, picture):
    """The whole places of picture, ascending."""
    cells, flight, marks = shape
    return [place for place in range(marks * cells)
            if all(shows_by_hand(shape, picture, place - back) for back in range(1, cells - flight + 1))]


def far_by_hand(shape, picture):
    """The far places of picture, ascending."""
    cells, flight, marks = shape
    whole = whole_by_hand(shape, picture)
    return [place for place in whole
            if not any((place + step) % (marks * cells) in whole for step in range(1, flight + 1))]


def answer_by_hand(shape, picture):
    """The answer of picture, or None."""
    far = far_by_hand(shape, picture)
    return far[0] if len(far) == 1 else None


def is_fit_by_hand(shape, picture, place, flown):
    """Whether (place, flown) is a fit of picture."""
    cells, flight, _ = shape
    if not all(shows_by_hand(shape, picture, place - back) for back in range(1, cells - flight + 1)):
        return False
    return all(picture[(place + step) % cells] == TORN or shows_by_hand(shape, picture, place + step - cells)
               or step < flown and shows_by_hand(shape, picture, place + step) for step in range(flight))


def fits_by_hand(shape, picture):
    """The fits of picture, ascending."""
    cells, flight, marks = shape
    return [(place, flown) for place in range(marks * cells) for flown in range(flight + 1)
            if is_fit_by_hand(shape, picture, place, flown)]


def right_by_hand(shape, picture, fits):
    """The places that are right for all of fits."""
    cells, _, marks = shape
    return [place for place in whole_by_hand(shape, picture)
            if all(any((s + step) % (marks * cells) == place for step in range(flown + 1)) for s, flown in fits)]


class LifeByHand:
    """A life as it goes on: what lies in the cells, what is in flight, the numbers that stand and are begun."""

    def __init__(self, shape):
        self.shape = shape
        self.picture = [(shape[2] - 1, BLANK)] * shape[0]
        self.flight = []
        self.stands = self.begun = 0
        self.awake = True
        self.events = []
        self.records = {}
        self.forced = []

    def turn(self):
        """How many places there are."""
        return self.shape[0] * self.shape[2]

    def answer(self):
        """The answer of the picture, or None."""
        return answer_by_hand(self.shape, self.picture)

    def mending(self):
        """The writes of mending."""
        cells, flight, marks = self.shape
        numbers = [self.answer() + step - cells for step in range(flight)]
        return [(number % cells, (number // cells % marks, BLANK)) for number in numbers
                if self.picture[number % cells] != TORN and not shows_by_hand(self.shape, self.picture, number)]

    def settle(self):
        """All of flight stands."""
        for cell, content in self.flight:
            self.picture[cell] = content
        self.flight = []

    def fall(self, fates):
        """All of flight falls by its fates."""
        for (cell, content), fate in zip(self.flight, fates):
            self.picture[cell] = {"new": content, "torn": TORN, "old": self.picture[cell]}[fate]
        self.flight = []

    def write(self, record):
        """One more record."""
        cells, flight, marks = self.shape
        if len(self.flight) == flight:
            self.settle()
            self.stands = self.begun
            self.forced.append(self.begun)
        self.flight.append((self.begun % cells, (self.begun // cells % marks, record)))
        self.records[self.begun] = record
        self.begun += 1
        self.events.append(("write", record))

    def sync(self):
        """All that is in flight stands."""
        self.settle()
        self.stands = self.begun
        self.events.append(("sync",))

    def cut(self, fates):
        """The power goes."""
        self.fall(fates)
        self.awake = False
        self.events.append(("cut", fates))

    def mend(self, many, fates):
        """Mending is begun, and the power goes again."""
        self.flight = self.mending()[:many]
        self.fall(fates)
        self.events.append(("mend", many, fates))

    def wake(self):
        """Mending is done, and the row goes on from the answer."""
        self.stands = self.begun = self.stands + (self.answer() - self.stands) % self.turn()
        self.flight = self.mending()
        self.settle()
        self.awake = True
        self.events.append(("wake",))

    def device(self):
        """The device behind the life."""
        return self.shape, tuple(self.picture), tuple(self.flight)

    def do(self, event):
        """Does event, if it can come here; whether it could."""
        if event[0] in ("mend", "wake"):
            return not self.awake and self.answer() is not None and self.do_asleep(event)
        if not self.awake or event[0] == "cut" and len(event[1]) != len(self.flight):
            return False
        {"write": self.write, "sync": self.sync, "cut": self.cut}[event[0]](*event[1:])
        return True

    def do_asleep(self, event):
        """Does event, a mend or a wake, if it can come here; whether it could."""
        if event[0] == "wake":
            self.wake()
        elif len(event[2]) != event[1] or event[1] > len(self.mending()):
            return False
        else:
            self.mend(*event[1:])
        return True

    def right(self):
        """The places from that ahead of which all stand to the one behind the last begun record."""
        return tuple(sorted(number % self.turn() for number in range(self.stands, self.begun + 1)))

    def go_on(self, dice):
        """One more event by chance; False if none can come."""
        fates = ("new", "old", "torn")
        if not self.awake:
            if self.answer() is None:
                return False
            if dice.random() < 0.4:
                many = dice.randint(0, len(self.mending()))
                self.mend(many, tuple(dice.choice(fates) for _ in range(many)))
            else:
                self.wake()
        elif dice.random() < 0.15:
            self.cut(tuple(dice.choice(fates) for _ in self.flight))
        elif dice.random() < 0.1:
            self.sync()
        else:
            self.write(some_record(dice))
        return True


def some_life(dice, shape, most=30):
    """A life of shape by chance."""
    life = LifeByHand(shape)
    for _ in range(dice.randint(0, most)):
        if not life.go_on(dice):
            break
    return life


def life_by_hand(shape, events, kind=LifeByHand):
    """The life of shape with just these events; None if it is none."""
    life = kind(shape)
    return life if all(life.do(event) for event in events) else None


def cut_life(dice, shape, most=30):
    """A life of shape by chance that ends with a cut."""
    while True:
        life = some_life(dice, shape, most)
        if not life.awake and life.events[-1][0] == "mend" and life.answer() is not None:
            life.wake()
        if life.awake:
            life.cut(tuple(dice.choice(("new", "old", "torn")) for _ in life.flight))
        if life.events[-1][0] == "cut":
            return life


def closed_by_hand(row):
    """The numbers of the records of each lot closed in row, lot by lot."""
    lots = []
    for at, record in enumerate(row):
        if record == BLANK or record[-1] != 0:
            continue
        back = range(1, min(record[-2], at) + 1)
        if all(row[at - k] != BLANK and row[at - k][-2:] == (record[-2] - k, k) for k in back):
            lots.append(list(range(at - len(back), at + 1)))
    return lots


def last_by_hand(row):
    """The pairs (number, key) of the last words of row, ascending."""
    done = [number for lot in closed_by_hand(row) for number in lot]
    last = []
    for number in done:
        later = [row[other] for other in done if other > number]
        if row[number][0] == "put" and all(other[1] != row[number][1] for other in later):
            last.append((number, row[number][1]))
    return tuple(sorted(last))


def table_by_hand(row):
    """The table of row."""
    table = {}
    for lot in closed_by_hand(row):
        for number in lot:
            table.pop(row[number][1], None)
            if row[number][0] == "put":
                table[row[number][1]] = row[number][2]
    return tuple(sorted(table.items()))


def parts_by_hand(deed):
    """The records of the row of deed."""
    singles = deed[1] if deed[0] == "lot" else (deed,)
    return tuple(single + (at, len(singles) - 1 - at) for at, single in enumerate(singles))


def row_by_chance(dice, most=8):
    """A row of deeds, each maybe cut off at its end, with blanks or without, maybe without its first records."""
    row = ()
    for _ in range(dice.randint(0, most)):
        if dice.random() < 0.15:
            row += (BLANK,) * dice.randint(1, 2)
        parts = parts_by_hand(some_deed(dice))
        row += parts[:dice.randint(0, len(parts))] if dice.random() < 0.3 else parts
    return row[dice.choice((0, 0, dice.randint(0, len(row)))):]


def with_deeds_by_hand(table, deeds):
    """The table, a set of pairs, behind all deeds."""
    table = dict(table)
    for deed in deeds:
        for single in deed[1] if deed[0] == "lot" else (deed,):
            table.pop(single[1], None)
            if single[0] == "put":
                table[single[1]] = single[2]
    return tuple(sorted(table.items()))


def carried_by_hand(window, many, most=100):
    """What is carried ahead of many records; None if it does not end."""
    window, written = list(window), []
    for _ in range(most):
        leaving = [number for number, _ in last_by_hand(window) if number < many]
        if leaving == []:
            return tuple(written)
        written.append(window[leaving[0]][:3] + (0, 0))
        window = window[1:] + written[-1:]
    return None


class StoryByHand(LifeByHand):
    """A story as it goes on; beside the ring all records by their numbers, and which deed has which of them."""

    def __init__(self, shape):
        super().__init__(shape)
        self.story = []
        self.deeds = []
        self.refused = []

    def window(self):
        """The last records of the course."""
        many = self.shape[0] - self.shape[1]
        return tuple(self.records.get(number, BLANK) for number in range(self.begun - many, self.begun))

    def has_room(self, deed):
        """Whether deed has room."""
        table, many = table_by_hand(self.window()), self.shape[0] - self.shape[1]
        return len(table) <= many - len(parts_by_hand(deed)) and len(with_deeds_by_hand(table, [deed])) <= many - 1

    def deed(self, deed):
        """Does deed, if it has room; whether it had."""
        room = self.has_room(deed)
        if room:
            parts = parts_by_hand(deed)
            for record in carried_by_hand(self.window(), len(parts)) + parts:
                self.write(record)
            self.deeds.append((len(self.story), deed, self.begun))
        else:
            self.refused.append(len(self.story))
        self.story.append(("deed", deed))
        return room

    def sync(self):
        """All that is in flight stands."""
        super().sync()
        self.story.append(("sync",))

    def cut(self, fates):
        """The power goes."""
        super().cut(fates)
        self.story.append(("cut", fates))

    def mend(self, many, fates):
        """Mending is begun, and the power goes again."""
        super().mend(many, fates)
        self.story.append(("mend", many, fates))

    def wake(self):
        """Mending is done, and the row goes on from the answer."""
        super().wake()
        self.records = {number: self.records[number] for number in self.records if number < self.begun}
        self.deeds = [own for own in self.deeds if own[2] <= self.begun]
        self.story.append(("wake",))

    def kept_with(self, many):
        """The numbers of the deeds with all their records among the first many."""
        return tuple(number for number, _, end in self.deeds if end <= many)

    def plain(self, many):
        """The plain table of these."""
        return with_deeds_by_hand((), [deed for _, deed, end in self.deeds if end <= many])

    def number_kept(self):
        """How many records waking will keep; there is just one such number."""
        numbers = [number for number in range(self.stands, self.begun + 1) if number % self.turn() == self.answer()]
        assert len(numbers) == 1
        return numbers[0]

    def tell_on(self, dice, keys="abcde", cuts=0.12):
        """One more event by chance."""
        fates = ("new", "old", "torn")
        if not self.awake:
            if dice.random() < 0.4:
                many = dice.randint(0, len(self.mending()))
                self.mend(many, tuple(dice.choice(fates) for _ in range(many)))
            else:
                self.wake()
        elif dice.random() < cuts:
            self.cut(tuple(dice.choice(fates) for _ in self.flight))
        elif dice.random() < 0.08:
            self.sync()
        else:
            self.deed(deed_of(dice, keys))


def deed_of(dice, keys):
    """A deed by chance, of these keys."""
    if dice.random() < 0.3:
        return "lot", tuple(single_of(dice, keys) for _ in range(dice.choice((2, 2, 3, 4, 6))))
    return single_of(dice, keys)


def single_of(dice, keys):
    """A put or a drop by chance, of these keys."""
    key = dice.choice(keys)
    return ("put", key, dice.choice("xyz")) if dice.random() < 0.65 else ("drop", key)


def some_told(dice, shape, most=60, keys=None, cuts=0.12):
    """A story of shape by chance, with about as many keys as there is room for."""
    story = StoryByHand(shape)
    keys = keys or "abcdefghijklmnopqrstuvwxyz"[:max(1, shape[0] - shape[1] + dice.randint(-2, 1))]
    for _ in range(dice.randint(0, most)):
        story.tell_on(dice, keys, cuts)
    return story


def safe_shapes(cells, marks):
    """All safe shapes with at most so many cells and marks."""
    return [shape for shape in all_shapes(cells, marks) if is_safe_by_hand(shape)]


def is_safe_by_hand(shape):
    """Whether shape is safe."""
    cells, flight, marks = shape
    return marks > 1 and marks * cells > 3 * flight


def some_wide_shapes(dice, many, marks=5):
    """Some shapes of nine to sixteen cells."""
    shapes = []
    for _ in range(many):
        cells = dice.randint(9, 16)
        shapes.append((cells, dice.randint(1, cells - 1), dice.randint(1, marks)))
    return shapes


def pictures_of(shape, record=BLANK):
    """All pictures of shape in which the same record stands in all cells."""
    cells, _, marks = shape
    pictures = [()]
    for _ in range(cells):
        pictures = [own + (cell,) for own in pictures for cell in [TORN] + [(mark, record) for mark in range(marks)]]
    return pictures


# Shapes all of whose pictures are few: with one mark, safe ones and others.
FEW = ((2, 1, 1), (2, 1, 2), (2, 1, 3), (3, 1, 1), (3, 2, 1), (3, 1, 2), (3, 2, 2), (3, 2, 3), (4, 1, 2), (4, 2, 2),
       (4, 3, 2), (4, 3, 3), (4, 2, 1), (5, 3, 2), (5, 4, 2), (5, 2, 1))
