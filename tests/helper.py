"""What the tests share: values of all kinds, wrong ones, and calls in every form that the document allows."""

import copy
import random

TORN = ("torn",)
BLANK = ("blank",)
PUT = ("put", "a", "x", 0, 0)
DROP = ("drop", "a", 0, 0)

# No value that a name in capitals stands for is one of these.
JUNK = (None, True, False, 5, -1, "", "x", "blank", b"torn", 1.5, {}, {"a": "x"}, object, (), [], (None,), ("x",),
        (1, 2), [[1]], ((),), ("torn", "torn"), (("torn",),), ("put",), ("wake", 1))

WRONG_SHAPES = JUNK + ((5, 2), (5, 2, 2, 2), (1, 1, 2), (0, 0, 0), (5, 5, 2), (5, 0, 2), (5, -1, 2), (5, 2, 0),
                       (5, 2, -1), (5, True, 2), (5, 2, True), (5.0, 2, 2), ("5", 2, 2), (5, None, 2), ((5,), 2, 2))

WRONG_KEYS = (None, True, 5, "", "@", "A", "aA", "a b", "a-b", "@@a", "a@", "abcdefghijklm", "@abcdefghijklm",
              "a\n", b"a", ("a",), ["a"], "\u00e9", "\u0661", "\u0430")

WRONG_WORDS = WRONG_KEYS + ("@a",)

WRONG_RECORDS = JUNK + tuple(("put", key, "x", 0, 0) for key in WRONG_KEYS) + tuple(
    ("put", "a", word, 0, 0) for word in WRONG_WORDS) + tuple(("drop", key, 0, 0) for key in WRONG_KEYS) + (
    ("put", "a", "x"), ("drop", "a"), ("put", "a", "x", 0), ("drop", "a", 0), ("put", "a", "x", 0, 0, 0),
    ("drop", "a", "x", 0, 0), ("put", "a", 0, 0), ("put", "a", "x", -1, 0), ("put", "a", "x", 0, -1),
    ("put", "a", "x", True, 0), ("put", "a", "x", 0, False), ("put", "a", "x", "0", 0), ("put", "a", "x", 0, None),
    ("drop", "a", -1, 0), ("drop", "a", 0, -1), ("drop", "a", True, 0), ("drop", "a", 0, True), ("blank", 0, 0),
    ("blank", "a"), ("torn",), ("lot", (("put", "a", "x"), ("drop", "a"))), ("Put", "a", "x", 0, 0),
    (0, ("blank",)), (("blank",),))

WRONG_SINGLES = JUNK + tuple(("put", key, "x") for key in WRONG_KEYS) + tuple(
    ("put", "a", word) for word in WRONG_WORDS) + tuple(("drop", key) for key in WRONG_KEYS) + (
    ("put", "a"), ("drop", "a", "x"), ("put", "a", "x", 0, 0), ("drop", "a", 0, 0), ("blank",), ("get", "a"),
    ("lot", ()), ("lot", (("put", "a", "x"),)), (("drop", "a"),), ("put", "a", "x", "y"))

WRONG_DEEDS = WRONG_SINGLES + (
    ("lot",), ("lot", None), ("lot", ("put", "a", "x")), ("lot", (("put", "a", "x"), None)),
    ("lot", (("put", "a", "x"), ("drop", "B"))), ("lot", (("drop", "a"), ("drop", "a")), 0),
    ("lot", (("drop", "a"), ("lot", (("drop", "a"), ("drop", "b"))))), ("lot", (("drop", "a"), ("blank",))),
    ("lots", (("drop", "a"), ("drop", "b"))))

WRONG_TABLES = tuple(own for own in JUNK if own not in ((), [])) + (
    ("a", "x"), (("a",),), (("a", "x", "y"),), (("a", "x"), ("a", "x")), (("a", "x"), ("a", "y")),
    (("b", "x"), ("a", "x")), (("a", "X"),), (("A", "x"),), (("a", "x"), None), (("a", 5),), ((5, "a"),),
    (("@", "x"),), (("a", "@x"),), {("a", "x")}, (("0", "x"), ("a", "x"), ("@a", "x")))


def lists(value):
    """value with lists in the place of tuples at every depth."""
    if isinstance(value, (tuple, list)):
        return [lists(part) for part in value]
    return value


def tuples(value):
    """value with tuples in the place of lists at every depth."""
    if isinstance(value, (tuple, list)):
        return tuple(tuples(part) for part in value)
    return value


def lists_at(value, depth):
    """value with lists in the place of tuples at this one depth, tuples at all others."""
    if not isinstance(value, (tuple, list)):
        return value
    parts = [lists_at(part, depth - 1) for part in value]
    return parts if depth == 0 else tuple(parts)


def depth_of(value):
    """How deep tuples and lists are nested in value."""
    if not isinstance(value, (tuple, list)):
        return 0
    return 1 + max([depth_of(part) for part in value], default=0)


def outcome(function, args, named):
    """What a call gives: a repr of its result, or of its error with all its attributes."""
    try:
        return "returned " + repr(function(*args, **named))
    except Exception as error:
        return "raised " + repr((error.__class__, sorted(vars(error).items())))


def told(case, function, **named):
    """The result of function, which is the same by position, by names, again, and with lists at each depth.

    Arguments called thing are left as they are; nothing that is handed in is changed."""
    before = copy.deepcopy(named)
    first = outcome(function, tuple(named.values()), {})
    forms = [named]
    for name, value in named.items():
        if name != "thing":
            forms.append({**named, name: lists(value)})
            forms.extend({**named, name: lists_at(value, depth)} for depth in range(depth_of(value)))
    forms.append({name: value if name == "thing" else lists(value) for name, value in named.items()})
    for form in forms:
        kept = copy.deepcopy(form)
        case.assertEqual(outcome(function, (), form), first, (function.__name__, form))
        case.assertEqual(repr(form), repr(kept), "an argument was changed")
    case.assertEqual(repr(named), repr(before), "an argument was changed")
    return function(**named)


def refuses(case, error, function, *args, **attributes):
    """function raises just this error with these attributes, tuples in the place of lists."""
    try:
        result = function(*args)
    except Exception as raised:
        case.assertIs(raised.__class__, error, (function.__name__, args))
        case.assertEqual(repr(vars(raised)), repr(attributes), (function.__name__, args))
    else:
        case.fail(f"{function.__name__}{args} returned {result!r}, not {error.__name__}")


def refuses_each(case, error, function, args, at, wrongs):
    """function raises error if the argument number at is any of wrongs, or is so with lists."""
    for wrong in wrongs:
        for form in (wrong, lists(wrong)):
            refuses(case, error, function, *args[:at], form, *args[at + 1:])


def all_shapes(cells, marks):
    """All shapes with at most so many cells and marks."""
    return [(k, d, m) for k in range(2, cells + 1) for d in range(1, k) for m in range(1, marks + 1)]


def some_shape(dice, cells=6, marks=3):
    """A shape with at most so many cells and marks."""
    many = dice.randint(2, cells)
    return many, dice.randint(1, many - 1), dice.randint(1, marks)


def some_single(dice):
    """A put or a drop of one of a few keys."""
    key = dice.choice(("a", "b", "@c", "0"))
    return ("put", key, dice.choice(("x", "y"))) if dice.random() < 0.6 else ("drop", key)


def some_deed(dice):
    """A single, or a lot of two to four parts."""
    if dice.random() < 0.5:
        return some_single(dice)
    return "lot", tuple(some_single(dice) for _ in range(dice.randint(2, 4)))


def some_record(dice):
    """A record, often one by itself."""
    if dice.random() < 0.2:
        return BLANK
    row = dice.choice(((0, 0), (0, 0), (0, 1), (1, 0), (2, 1)))
    return some_single(dice) + row


def some_cell(dice, shape):
    """A cell of shape, now and then torn."""
    if dice.random() < 0.2:
        return TORN
    return dice.randrange(shape[2]), some_record(dice)


def some_device(dice, shape, full=False):
    """A device of shape, its writes anywhere."""
    cells, flight, marks = shape
    picture = tuple(some_cell(dice, shape) for _ in range(cells))
    many = flight if full else dice.randint(0, flight)
    row = tuple((dice.randrange(cells), (dice.randrange(marks), some_record(dice))) for _ in range(many))
    return shape, picture, row


def dice_of(seed):
    """Chance that is the same in each run."""
    return random.Random(seed)
