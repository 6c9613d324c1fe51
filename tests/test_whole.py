"""Points 1, 2, 3 and 27, over the whole program; one story told in all ways that there are."""

import ast
import copy
import importlib
import inspect
import pathlib
import unittest

from halfring import (carrying, costs, devices, examiner, fits, judge, log, meaning, mending, outcomes, places, readers,
                      records, shapes, stories, table, texts, threelives, wear)
from halfring.desk import Desk
from halfring.errors import Asleep, CanNot, Full, TooMany, Unfit
from halfring.server import Server
from halfring.signs import words
from halfring.store import Store
from tests.helper import (BLANK, DROP, PUT, TORN, StoryByHand, answer_by_hand, depth_of, dice_of, lists, refuses,
                          safe_shapes, some_told, some_wide_shapes)
from tests.test_fits import APART, FALLEN, NEWER, ODD
from tests.test_log import BRIEF, LOG
from tests.test_stories import DARK, EARLY, LATE, RING

HERE = pathlib.Path(__file__).parent
SHAPE, UNSAFE = (5, 3, 2), (4, 3, 2)
FATES = ("new", "old", "torn")
SIX = ("lot", (("put", "a", "x"), ("drop", "b"), ("put", "@c", "y"), ("drop", "a"), ("put", "a", "z"), ("drop", "@d")))
WROTE = ("write", BLANK)
HELD = (SHAPE, FALLEN, ((0, (1, PUT)), (1, (0, DROP))))
LATER = ((6, 4, 3), (WROTE,) * 4 + (("cut", ("old", "old", "new", "new")), ("wake",), WROTE, ("sync",), ("cut", ())))
# Each function with a thing: its other arguments, and a thing for which it is true.
TRUE = (
    (shapes.is_shape, (), SHAPE), (records.is_key, (), "@r1"), (records.is_word, (), "r1"),
    (records.is_record, (), PUT), (records.is_record, (), BLANK), (records.is_record, (), ("drop", "a", 1, 0)),
    (records.is_deed, (), SIX), (records.is_deed, (), ("drop", "a")), (records.is_table, (), (("a", "x"), ("b", "y"))),
    (devices.is_cell, (SHAPE,), (1, PUT)), (devices.is_cell, (SHAPE,), TORN), (devices.is_picture, (SHAPE,), FALLEN),
    (devices.is_device, (), HELD), (devices.is_fates, (HELD,), ("new", "old")),
    (fits.is_fit, (SHAPE, ((1, BLANK),) * 5), (0, 1)), (fits.is_fit, (SHAPE, FALLEN), (7, 2)),
    (fits.is_parting, (UNSAFE, ODD), APART),
    (threelives.is_three_lives, (UNSAFE,), threelives.three_lives(UNSAFE)),
    (threelives.is_three_lives, (SHAPE[:2] + (1,),), threelives.three_lives((5, 3, 1))),
    (table.is_two_ends, (SHAPE,), table.two_ends(SHAPE)), (log.is_log, (), LOG), (log.is_log, (), log.begun_log(SHAPE)),
    (log.is_life, (SHAPE,), BRIEF + (("mend", 0, ()), ("wake",))), (mending.is_lost_again, LATER[:1], LATER[1]),
    (stories.is_story, (RING,), LATE), (costs.is_worst_row, (SHAPE, 1), costs.worst_row(SHAPE, 1, 7)),
    (wear.is_worst_life, (SHAPE,), wear.worst_life(SHAPE, 1, 1)),
    (readers.is_wrong_looks, (SHAPE,), readers.wrong_looks(SHAPE)),
    (readers.is_wrong_looks, (UNSAFE,), (0, 2, 0, 0)), (readers.is_wrong_looks, ((2, 1, 2),), (0, 2)),
    (examiner.is_life_to, (SHAPE, NEWER), examiner.life_to(SHAPE, NEWER)),
    (examiner.is_reason, (SHAPE, (TORN,) * 5), examiner.reason(SHAPE, (TORN,) * 5)),
    (examiner.is_near_lying, (SHAPE, (TORN,) * 5), examiner.near_lying(SHAPE, (TORN,) * 5)),
    (judge.is_demand, (), ("safe", SHAPE)), (judge.is_demand, (), ("can", SHAPE, FALLEN)),
    (judge.is_demand, (), ("right", SHAPE, NEWER, 0)), (judge.is_demand, (), ("right", SHAPE, NEWER, 1)),
    (judge.is_demand, (), ("comes", RING, EARLY, (("a", "x"),))),
    (judge.is_paper_against, (("safe", UNSAFE),), threelives.three_lives(UNSAFE)),
    (judge.is_paper_against, (("can", SHAPE, (TORN,) * 5),), examiner.reason(SHAPE, (TORN,) * 5)),
    (judge.is_paper_against, (("right", SHAPE, NEWER, 1),), (9, 0)),
    (judge.is_paper_against, (("right", SHAPE, NEWER, 1),), (8, 1)),
    (judge.is_paper_against, (("comes", RING, EARLY, ()),), outcomes.outcomes(RING, EARLY)),
    (judge.is_reason_for, (("safe", SHAPE),), 1),
    (judge.is_reason_for, (("can", SHAPE, NEWER),), examiner.life_to(SHAPE, NEWER)),
    (judge.is_reason_for, (("right", SHAPE, ((1, BLANK),) * 5, 0),), fits.fits(SHAPE, ((1, BLANK),) * 5)),
    (judge.is_reason_for, (("comes", RING, EARLY, (("a", "z"),)),), ("new", "new")))
# Values of all kinds that a thing may be.
DEEP = ()
for _ in range(19):
    DEEP = (DEEP,)
ODD_THINGS = (None, True, False, 0, 1, -1, 10 ** 6, 10 ** 400, "", "a", "x" * 5000, "\n", "\u00e9", (), [], ("",),
              [[]], DEEP, [DEEP],
              (None,) * 300, (True, False), ("put", "a"), ("lot", ()), ("cut", ()), ("wake",), [("torn",)],
              (("torn",), ["blank"]),
              (10 ** 400, 10 ** 400, 10 ** 400), (-(10 ** 400), 1, 1), ("write", None), (("mend", 10 ** 400, ()),),
              (("mend", -1, ()),), ("safe",), ("safe", None), (0, (0, 0)))


def listed():
    """What the document lists: for each module the pairs (name, names of its arguments)."""
    text = (HERE / "interface.txt").read_text().replace("\n    ", " ")
    for line in text.splitlines():
        module, _, rest = line.partition(": ")
        yield module, [(own.partition("(")[0], own.partition("(")[2][:-1].split(", ")) for own in rest.split("; ")]


def variants(thing):
    """thing with one tuple in it as a list, one number as True or False or None, one string as None, at any depth."""
    if isinstance(thing, str):
        yield None
    elif isinstance(thing, int):
        yield None
        if thing in (0, 1):
            yield bool(thing)
    else:
        yield list(thing)
        for at, part in enumerate(thing):
            for other in variants(part):
                yield thing[:at] + (other,) + thing[at + 1:]


class TestInterface(unittest.TestCase):
    def test_all_that_is_listed(self):
        many = 0
        for module, rows in listed():
            own = importlib.import_module("halfring." + module)
            for name, names in rows:
                many += 1
                first, _, method = name.partition(".")
                value = getattr(own, first)
                self.assertEqual(value.__module__, "halfring." + module, name)
                if method:
                    self.assertIn(method, vars(value), name)
                    names = ["self"] + [each for each in names if each]
                    value = vars(value)[method]
                parameters = inspect.signature(value).parameters.values()
                self.assertEqual([each.name for each in parameters], names, name)
                for each in parameters:
                    self.assertEqual((each.kind, each.default), (each.POSITIONAL_OR_KEYWORD, each.empty), name)
        self.assertGreater(many, 200)

    def test_each_is_defined_in_its_file(self):
        for module, rows in listed():
            tree = ast.parse((HERE.parent / "halfring" / (module + ".py")).read_text())
            defined = {node.name for node in tree.body if isinstance(node, (ast.FunctionDef, ast.ClassDef))}
            for node in tree.body:
                if isinstance(node, ast.ClassDef):
                    defined |= {f"{node.name}.{own.name}" for own in node.body if isinstance(own, ast.FunctionDef)}
            for name, _ in rows:
                self.assertIn(name, defined)

    def test_no_class_has_another_below_it_but_an_error(self):
        for own in (Store, Server, Desk):
            self.assertEqual(own.__bases__, (object,))


class TestThings(unittest.TestCase):
    """A thing is judged as it stands: a list is no tuple there, True is no number."""

    def test_all_are_here(self):
        listed_ones = {name for _, rows in listed() for name, names in rows if "thing" in names}
        self.assertEqual({function.__name__ for function, _, _ in TRUE}, listed_ones)

    def test_what_is_such(self):
        for function, more, thing in TRUE:
            self.assertIs(function(*more, thing), True, (function.__name__, thing))
            self.assertIs(function(*lists(more), thing), True)
            before = copy.deepcopy(thing)
            function(*more, thing=thing)
            self.assertEqual(repr(thing), repr(before))

    def test_one_value_of_another_kind_in_it(self):
        many = 0
        for function, more, thing in TRUE:
            for other in variants(thing):
                kept = copy.deepcopy(other)
                self.assertIs(function(*more, other), False, (function.__name__, other))
                self.assertEqual(repr(other), repr(kept))
                many += 1
        self.assertGreater(many, 1000)

    def test_values_of_all_kinds(self):
        for function, more, _ in TRUE:
            for thing in ODD_THINGS:
                self.assertIn(function(*more, thing), (True, False), (function.__name__, thing))
                if isinstance(thing, tuple):
                    self.assertIs(function(*more, lists(thing)), False, (function.__name__, thing))
        self.assertEqual(depth_of(DEEP), 20)

    def test_errors_of_the_other_arguments_whatever_it_is(self):
        for function, more, thing in TRUE:
            for at in range(len(more)):
                for own in ODD_THINGS[:5] + (thing,):
                    refuses(self, Unfit, function, *more[:at], None, *more[at + 1:], own)


class TestValues(unittest.TestCase):
    def test_lists_are_new(self):
        """Each list that is returned is new, and belongs to the caller."""
        bare = devices.ordered(devices.blank_device(SHAPE), 0, (0, PUT))
        for function, args in ((words, ("put a x",)), (records.closed_in, ((PUT, DROP),)), (devices.cuts, (bare,)),
                               (meaning.tables_behind, ((PUT,), (DROP,))), (readers.moments, (LOG, (PUT,)))):
            first = function(*args)
            self.assertIs(first.__class__, list)
            again = copy.deepcopy(first)
            first.clear()
            self.assertEqual(function(*args), again, function.__name__)

    def test_tuples_else(self):
        """All else that has several values is a tuple, at any depth."""
        story = (RING, EARLY)
        life = (SHAPE, BRIEF)
        for value in (records.parts_of(SIX), records.row_of([list(SIX)]), records.keys_of(SIX),
                      devices.blank_device([5, 3, 2]),
                      devices.view(lists(HELD)), devices.fates_to(HELD, devices.view(HELD)),
                      devices.torn_in(lists(FALLEN)),
                      places.gaps(SHAPE, lists(NEWER)), places.records_ahead(SHAPE, lists(NEWER), 7),
                      fits.fits(SHAPE, FALLEN),
                      fits.parting_fits(UNSAFE, lists(ODD)), threelives.life_at(SHAPE, lists(NEWER), 7),
                      threelives.three_lives([4, 3, 2]),
                      threelives.right_in(*lists(life)), table.safe_table(4), table.two_ends([5, 3, 2]),
                      log.logged(lists(LOG), list(PUT)),
                      log.device_behind(*lists(life)), mending.woken(SHAPE, lists(FALLEN)),
                      mending.mend_writes(SHAPE, lists(FALLEN)),
                      meaning.gist([list(PUT)]), carrying.writes_for([list(BLANK)] * 3, list(SIX[1][0])),
                      stories.played(*lists(story)),
                      stories.tables_of(*lists(story)), outcomes.outcomes(*lists(story)),
                      outcomes.fates_for(*story, [["a", "z"]]),
                      costs.writes_of([8, 1, 2], [lists(SIX)]), costs.price([5, 3, 2], 1), wear.wear(*lists(life)),
                      wear.worst_life([5, 3, 2], 1, 1), readers.seen(lists(LOG), [list(PUT)], [0] * 5),
                      readers.wrong_looks([5, 3, 2]),
                      examiner.life_to([5, 3, 2], lists(NEWER)), examiner.patterns([2, 1, 2]),
                      judge.reason_for(lists(("can", SHAPE, NEWER))),
                      judge.paper_against(["safe", [4, 3, 2]]), texts.read_story("cut new\nwake")):
            self.assertNotIn("[", repr(value))
            self.assertIsInstance(value, tuple)

    def test_unlike_is_the_opposite_of_like(self):
        for make in (lambda: Store(RING), lambda: Desk(RING)):
            one, other = make(), make()
            self.assertEqual((one == other, one != other), (True, False))
            if isinstance(one, Store):
                one.put("a", "x")
            else:
                one.say("put a x")
            self.assertEqual((one == other, one != other), (False, True))


class ToldInAllWays:
    """One story: by hand, as a store, at a desk; what each answers to each event."""

    def __init__(self, case, by_hand):
        self.case = case
        self.by_hand = by_hand
        self.shape, self.story = by_hand.shape, tuple(by_hand.story)

    def in_a_store(self):
        """The store, and how each event went."""
        store, answers = Store(self.shape), []
        for event in self.story:
            try:
                if event[0] == "deed":
                    getattr(store, event[1][0])(*event[1][1:])
                else:
                    getattr(store, event[0])(*event[1:])
                answers.append("done")
            except Full:
                answers.append("full")
        return store, answers

    def line_of(self, event):
        """The line of a desk that tells event."""
        if event[0] == "deed" and event[1][0] == "lot":
            return "lot " + ", ".join(" ".join(part) for part in event[1][1])
        if event[0] == "deed":
            return " ".join(event[1])
        return " ".join(str(part) for part in event[:1] + event[1:-1] + (event[-1] if len(event) > 1 else ()))

    def at_a_desk(self):
        """The desk, and its answers."""
        desk = Desk(self.shape)
        if self.story == ():
            return desk, []
        return desk, list(desk.say("\n".join(self.line_of(event) for event in self.story)))

    def check(self):
        case = self.case
        case.assertEqual(texts.read_story(texts.story_text(self.story)), self.story)
        own, device = stories.played(self.shape, self.story)
        case.assertEqual(device, self.by_hand.device())
        case.assertEqual(texts.read_device(texts.device_text(device)), device)
        store, answers = self.in_a_store()
        desk, said = self.at_a_desk()
        refused = stories.refused(self.shape, self.story)
        case.assertEqual(answers, ["full" if at in refused else "done" for at in range(len(self.story))])
        case.assertEqual(said, answers)
        case.assertEqual(desk.story(), tuple(event for at, event in enumerate(self.story) if at not in refused))
        case.assertEqual((store.device(), desk.device()), (device, device))
        if own is None:
            for awake in (store, desk):
                refuses(case, Asleep, awake.table)
        else:
            case.assertEqual((store.table(), desk.table()), (own, own))
            case.assertEqual(own, self.by_hand.plain(self.by_hand.begun))
        case.assertIs(stories.is_story(self.shape, desk.story()), True)
        case.assertEqual(stories.played(self.shape, desk.story()), (own, device))
        self.check_life(device)
        return device

    def check_life(self, device):
        """The life that the story leads, its records being those that were written."""
        case, life = self.case, tuple(self.by_hand.events)
        case.assertEqual(texts.read_life(texts.life_text(life)), life)
        case.assertEqual(log.device_behind(self.shape, life), device)
        case.assertIs(examiner.is_life_to(self.shape, device[1], life), True)
        case.assertIs(judge.is_reason_for(("can", self.shape, device[1]), life), True)


class TestOneStory(unittest.TestCase):
    def judged(self, by_hand, device):
        """What the examiner and the judge say of what it leaves."""
        shape, picture, _ = device
        self.assertIs(examiner.can_lie(shape, picture), True)
        self.assertEqual((examiner.flaws(shape, picture), examiner.near_lying(shape, picture)), (0, picture))
        place = answer_by_hand(shape, picture)
        self.assertEqual(places.answer(shape, picture), place)
        demands = (("safe", shape), ("can", shape, picture), ("right", shape, picture, place))
        self.assertIsNone(judge.first_fallen(demands))
        for demand in demands:
            self.assertIs(judge.is_reason_for(demand, judge.reason_for(demand)), True)
            self.assertIsNone(judge.paper_against(demand))
        story = tuple(by_hand.story)
        if by_hand.awake and len(by_hand.flight) <= 8:
            for own in outcomes.outcomes(shape, story):
                self.assertIs(judge.is_so(("comes", shape, story, own)), True)
            refuses(self, CanNot, outcomes.fates_for, shape, story, (("q", "q"),))
            none = ("comes", shape, story, (("q", "q"),))
            self.assertEqual(judge.paper_against(none), outcomes.outcomes(shape, story))
            self.assertEqual(judge.first_fallen(demands + (none,)), 3)
        else:
            self.assertIs(judge.is_demand(("comes", shape, story, ())), False)

    def test_one(self):
        """With cuts, mending cut off and wakings."""
        by_hand = StoryByHand(RING)
        for event in LATE + (("sync",), ("deed", SIX), ("deed", ("drop", "a")), ("cut", ("torn",)), ("mend", 0, ()),
                             ("wake",)):
            getattr(by_hand, event[0])(*event[1:])
        device = ToldInAllWays(self, by_hand).check()
        self.judged(by_hand, device)
        self.assertEqual(stories.played(RING, tuple(by_hand.story))[0], (("a", "z"), ("b", "w")))

    def test_dark_and_empty(self):
        for story in ((), DARK, DARK + (("mend", 1, ("torn",)),)):
            by_hand = StoryByHand(RING)
            for event in story:
                getattr(by_hand, event[0])(*event[1:])
            self.judged(by_hand, ToldInAllWays(self, by_hand).check())

    def test_stories_by_chance(self):
        dice = dice_of(271)
        cut_off = 0
        wide = [own for own in some_wide_shapes(dice, 40) if own in safe_shapes(16, 5)]
        for shape in safe_shapes(7, 3) + wide + [(16, 10, 2), (16, 15, 3)]:
            by_hand = some_told(dice, shape, 60)
            self.judged(by_hand, ToldInAllWays(self, by_hand).check())
            cut_off += len([event for event in by_hand.story if event[0] == "mend"])
        self.assertGreater(cut_off, 60)


class TestBounds(unittest.TestCase):
    """No error at the bounds of point 3, but where a point says so."""

    def test_wide_shapes(self):
        dice = dice_of(272)
        for shape in ((16, 15, 5), (16, 15, 2), (16, 1, 5), (16, 8, 1), (16, 10, 2), (16, 11, 2)):
            picture = tuple(dice.choice((TORN, (0, PUT), (shape[2] - 1, DROP), (0, BLANK))) for _ in range(16))
            for seen in (picture, (TORN,) * 16, ((0, PUT),) * 16, devices.blank_device(shape)[1]):
                self.check_picture(shape, seen)
            if not shapes.is_safe(shape):
                self.assertIs(threelives.is_three_lives(shape, threelives.three_lives(shape)), True)
            for function in (table.is_safe_by_pictures, examiner.patterns):
                refuses(self, TooMany, function, shape)
            self.assertIs(readers.is_wrong_looks(shape, readers.wrong_looks(shape)), True)
            self.assertEqual(places.shows(shape, picture, 10 ** 6), places.shows(shape, picture,
                10 ** 6 % (16 * shape[2])))
            self.assertIn(readers.right_by_numbers(shape, 10 ** 6, (10 ** 6,) * 16), (True, False))

    def check_picture(self, shape, picture):
        whole = places.whole_places(shape, picture)
        self.assertEqual(len(places.gaps(shape, picture)), len(whole))
        if fits.fits(shape, picture) == ():
            self.assertGreater(examiner.flaws(shape, picture), 0)
            self.assertIs(examiner.is_reason(shape, picture, examiner.reason(shape, picture)), True)
        else:
            self.assertIs(examiner.is_life_to(shape, picture, examiner.life_to(shape, picture)), True)
            if fits.right_places(shape, picture) == ():
                self.assertIs(fits.is_parting(shape, picture, fits.parting_fits(shape, picture)), True)

    def test_long_stories(self):
        story = tuple([("deed", SIX), ("sync",), ("deed", ("put", "@abcdefghijkl", "abcdefghijkl"))] * 20)
        for shape in ((16, 1, 5), (16, 4, 2), (16, 8, 3)):
            own, device = stories.played(shape, story)
            self.assertEqual(own, (("@abcdefghijkl", "abcdefghijkl"), ("@c", "y"), ("a", "z")))
            self.assertEqual(len(stories.tables_of(shape, story)), 60)
            self.assertEqual(texts.read_story(texts.story_text(story)), story)
            self.assertIs(devices.is_device(device), True)
        life = ((("write", BLANK), ("cut", ("old",)), ("wake",)) * 20)
        self.assertEqual(wear.spread((16, 1, 5), life), 20)

    def test_numbers_to_a_million(self):
        big = 10 ** 6
        record = ("put", "a", "x", big, big)
        self.assertIs(records.is_record(record), True)
        self.assertEqual(meaning.table_of((record, ("put", "a", "x", big, 0))), ())
        self.assertEqual(meaning.table_of((record[:3] + (big - 1, 1), ("put", "b", "y", big, 0))), (("a", "x"), ("b",
            "y")))
        self.assertEqual(meaning.window_of((record,), 100)[-1], record)
        self.assertEqual(costs.syncs_of((16, 15, 5), big), 66666)
        self.assertEqual(shapes.as_place((16, 15, 5), big), big % 80)
        server = Server((16, 3, 2))
        self.assertEqual(server.letter("abcdefghijkl", big, SIX[1][0]), ("gap", 0))

    def test_beyond_the_bounds_a_little(self):
        shape = (20, 5, 7)
        self.assertEqual((shapes.is_safe(shape), shapes.window(shape), examiner.flaws(shape, (TORN,) * 20)), (True, 15,
            15))
        lot = ("lot", tuple(("drop", key) for key in "abcdefgh"))
        store = Store(shape)
        store.lot(lot[1])
        self.assertEqual(store.log()[1], 8)
        self.assertEqual(outcomes.first_parts(shape, (("deed", lot),)), ((),))


if __name__ == "__main__":
    unittest.main()
