"""Point 26: the desk."""

import copy
import unittest

from halfring.desk import Desk
from halfring.errors import Asleep, Awake, BadText, Full, NoKey, NothingDone, Unfit, Unsafe
from halfring.store import Store
from halfring.stories import is_story, played
from tests.helper import (WRONG_SHAPES, StoryByHand, all_shapes, deed_of, dice_of, is_safe_by_hand, lists, refuses,
                          refuses_each, safe_shapes)

RING = (8, 4, 2)
A, B = ("deed", ("put", "a", "x")), ("deed", ("put", "b", "y"))
PAIR = ("deed", ("lot", (("drop", "a"), ("put", "@n", "x"))))
SYNC, WAKE = ("sync",), ("wake",)
FATES = ("new", "old", "torn")
# Each of them is no line, wherever it stands.
NO_LINES = ("", " ", "put", "put a", "put a x ", " put a x", "put  a x", "put a  x", "put a x y", "put A x",
            "put a @x", "put @ x",
            "put @@a x", "put abcdefghijklm x", "put @abcdefghijklm x", "put a abcdefghijklm", "put a x#", "put a x,",
            "Put a x",
            "put a-b x", "drop", "drop ", "drop a b", "drop a ", "drop  a", "drop a@", "drop @", "drop abcdefghijklm",
            "drop a,",
            "get", "get ", "get a ", "get a b", "get  a", "get @", "get A", "table ", " table", "table a", "tables",
            "TABLE",
            "kept ", "kept 1", "sync ", "sync sync", "sync new", "cut ", "cut lost", "cut new ", "cut  new",
            "cut new  old",
            "cut new, old", "cut New", "cut 0", "mend", "mend ", "mend 0 ", "mend 01", "mend 1  new", "mend -1",
            "mend x",
            "mend new", "mend 1 lost", "mend 1000000000000", "mend 0 0", "wake ", "wake new", "wake wake",
            "write blank",
            "deed put a x", "put a x 0 0", "undo", "redo", "story", "# put a x", "put a x # so", "lot", "lot ",
            "lot put a x",
            "lot drop a", "lot put a x,", "lot put a x, ", "lot put a x drop b", "lot put a x,drop b",
            "lot put a x , drop b",
            "lot put a x,  drop b", "lot put a x,, drop b", "lot put a x, drop b,", "lot put a x, drop b, ",
            "lot , put a x, drop b",
            "lot  put a x, drop b", "lot put a x, drop b ", "lot put a x, drop", "lot put a, drop b",
            "lot put a x, get b",
            "lot put a x, sync", "lot drop a, lot drop b", "lot lot drop a, drop b", "lot put a x, drop B",
            "lot put a @x, drop b",
            "lot " + ", ".join(["drop a"] * 7), "lot put a x; drop b", "lot,put a x, drop b", "mend 1, new",
            "lot 2 drop a, drop b")


def begun():
    """A desk with two puts and a lot in flight."""
    desk = Desk(RING)
    desk.say("put a x\nput b y\nlot drop a, put @n x")
    return desk


def face(desk):
    """All that a desk tells without being changed."""
    table = None if desk.say("kept") == ("asleep",) else desk.table()
    return desk.shape(), desk.story(), desk.device(), table


class TestLines(unittest.TestCase):
    def test_at_the_beginning(self):
        for shape in safe_shapes(5, 3):
            desk = Desk(shape)
            self.assertEqual((desk.shape(), desk.story(), desk.table()), (shape, (), ()))
            self.assertEqual(desk.device(), Store(shape).device())
            self.assertEqual(desk.say("table\nkept\nget a"), ("empty", "0", "no key"))
        self.assertEqual(Desk(list(RING)).shape(), RING)
        self.assertEqual(Desk(shape=RING), Desk(lists(RING)))

    def test_unsafe(self):
        for shape in all_shapes(7, 3):
            if not is_safe_by_hand(shape):
                refuses(self, Unsafe, Desk, shape)
                refuses(self, Unsafe, Desk, list(shape))
        refuses_each(self, Unfit, Desk, (None,), 0, WRONG_SHAPES)

    def test_each_line(self):
        desk = Desk(RING)
        for line, answer, more in (
                ("put a x", "done", A), ("drop q", "done", ("deed", ("drop", "q"))), ("put b y", "done", B),
                ("get a", "x", None), ("get q", "no key", None), ("get @n", "no key", None),
                ("table", "a x, b y", None),
                ("kept", "2", None), ("sync", "done", SYNC), ("lot drop a, put @n x", "done", PAIR),
                ("get @n", "x", None), ("table", "@n x, b y", None), ("wake", "awake", None), ("mend 0", "awake", None),
                ("mend 3 new", "awake", None), ("cut", "unfit", None), ("cut new", "unfit", None),
                ("cut new new", "unfit", None), ("cut new new new new", "unfit", None),
                ("cut new torn old", "done", ("cut", ("new", "torn", "old"))),
                ("table", "asleep", None), ("kept", "asleep", None), ("get a", "asleep", None),
                ("put a x", "asleep", None),
                ("drop a", "asleep", None), ("lot drop a, drop b", "asleep", None), ("sync", "asleep", None),
                ("cut", "asleep", None), ("cut new new", "asleep", None), ("mend 1", "unfit", None),
                ("mend 0 new", "unfit", None), ("mend 99", "unfit", None), ("mend 999999999999 new", "unfit", None),
                ("mend 0", "done", ("mend", 0, ())), ("wake", "done", WAKE), ("wake", "awake", None),
                ("table", "a x, b y", None), ("cut", "done", ("cut", ())), ("wake", "done", WAKE)):
            before = desk.story()
            self.assertEqual(desk.say(text=line), (answer,), line)
            self.assertEqual(desk.story(), before + (() if more is None else (more,)), line)

    def test_mending(self):
        desk = begun()
        text = "cut new old new new\nmend 2 new\nmend 3 new new new\nmend 2 torn old\nmend 1 old\nwake\ntable"
        self.assertEqual(desk.say(text), ("done", "unfit", "unfit", "done", "done", "done", "a x"))
        self.assertEqual(desk.story()[3:], (("cut", ("new", "old", "new", "new")), ("mend", 2, ("torn", "old")),
                                            ("mend", 1, ("old",)), WAKE))

    def test_full(self):
        desk = Desk((4, 2, 2))
        self.assertEqual(desk.say("put a x\nput b y\nlot put b y, drop a\nput a y\nlot drop q, drop q, drop q"),
                         ("done", "full", "full", "done", "full"))
        self.assertEqual(desk.story(), (A, ("deed", ("put", "a", "y"))))
        self.assertEqual(Desk((2, 1, 2)).say("put a x\ndrop a\nlot drop a, drop b"), ("full", "done", "full"))

    def test_a_word_that_is_an_answer(self):
        """What get answers is a word of the table, though it may be one of the other answers."""
        desk = Desk(RING)
        self.assertEqual(desk.say("put a done\nput b full"), ("done", "done"))
        self.assertEqual(desk.say("get a\nget b\nget a"), ("done", "full", "done"))
        self.assertEqual(len(desk.story()), 2)
        self.assertEqual((desk.undo(), desk.story()), (0, ()))

    def test_lots(self):
        desk = Desk((16, 3, 2))
        six = ", ".join(["put a x", "drop b", "put @c y", "drop a", "put a z", "drop @d"])
        self.assertEqual(desk.say("lot " + six + "\ntable\nlot drop a, drop a"), ("done", "@c y, a z", "done"))
        self.assertEqual(len(desk.story()[0][1][1]), 6)
        for parts in (1, 7, 8):
            refuses(self, BadText, desk.say, "lot " + ", ".join(["drop a"] * parts), line=0)

    def test_words_that_are_keys(self):
        desk = Desk(RING)
        self.assertEqual(desk.say("put put put\nget put\nlot drop put, put lot drop\nget lot\ndrop lot"),
                         ("done", "put", "done", "drop", "done"))

    def test_bad_lines(self):
        for make in (begun, lambda: Desk(RING)):
            desk = make()
            before = face(desk)
            for wrong in NO_LINES:
                refuses(self, BadText, desk.say, wrong, line=0)
                refuses(self, BadText, desk.say, "put c x\n" + wrong + "\nnone\nsync", line=1)
                refuses(self, BadText, desk.say, "wake\nmend 0\ncut\n" + wrong, line=3)
            refuses(self, BadText, desk.say, "sync\n", line=1)
            refuses(self, BadText, desk.say, "\nsync", line=0)
            refuses(self, BadText, desk.say, "sync\n\nsync", line=1)
            self.assertEqual(face(desk), before)

    def test_asleep(self):
        desk = begun()
        desk.say("cut new new new new")
        refuses(self, Asleep, desk.table)
        self.assertEqual((desk.shape(), desk.story()[:2]), (RING, (A, B)))
        self.assertEqual(desk.device()[2], ())
        self.assertEqual(desk.say("wake"), ("done",))
        self.assertEqual(desk.table(), (("@n", "x"), ("b", "y")))


class TestUndo(unittest.TestCase):
    def test_undo_and_redo(self):
        desk = Desk(RING)
        desk.say("put a x\nput b y")
        desk.say("cut new torn\nmend 0")
        desk.say("wake")
        self.assertEqual((desk.undo(), desk.undo(), desk.table()), (4, 2, (("a", "x"), ("b", "y"))))
        self.assertEqual((desk.redo(), desk.redo(), desk.table()), (4, 5, (("a", "x"),)))
        refuses(self, NothingDone, desk.redo)
        self.assertEqual([desk.undo() for _ in range(3)], [4, 2, 0])
        refuses(self, NothingDone, desk.undo)
        self.assertEqual((desk.story(), desk.table(), desk.device()), ((), (), Desk(RING).device()))
        self.assertEqual((desk.redo(), desk.story()), (2, (A, B)))

    def test_at_the_beginning(self):
        refuses(self, NothingDone, Desk(RING).undo)
        refuses(self, NothingDone, Desk(RING).redo)

    def test_a_say_that_did_nothing(self):
        """It is not taken back, and what could be done once more still can."""
        desk = begun()
        desk.say("put c z")
        desk.undo()
        for text in ("get a\ntable\nkept", "wake\nmend 0", "cut", "lot " + ", ".join(["drop a"] * 6)):
            before = desk.story()
            self.assertNotIn("done", desk.say(text))
            self.assertEqual(desk.story(), before)
        refuses(self, BadText, desk.say, "put d x\nput", line=1)
        self.assertEqual((desk.redo(), desk.undo(), desk.undo()), (4, 3, 0))
        refuses(self, NothingDone, desk.undo)

    def test_a_say_that_did_something_ends_what_could_be_done_once_more(self):
        desk = begun()
        desk.undo()
        self.assertEqual(desk.say("get a\nsync\nget a"), ("no key", "done", "no key"))
        refuses(self, NothingDone, desk.redo)
        self.assertEqual(desk.story(), (SYNC,))
        self.assertEqual(desk.undo(), 0)
        self.assertEqual((desk.redo(), desk.story()), (1, (SYNC,)))

    def test_whole_says(self):
        desk = Desk((4, 2, 2))
        desk.say("put a x\nput b y\nput a z\nwake\nsync")
        self.assertEqual((len(desk.story()), desk.undo()), (3, 0))

    def test_behind_an_undo_it_goes_on_from_there(self):
        desk = begun()
        desk.say("cut torn torn torn torn")
        desk.undo()
        self.assertEqual(desk.say("cut new new new new\nwake\ntable"), ("done", "done", "@n x, b y"))
        self.assertEqual([desk.undo(), desk.undo(), desk.redo(), desk.redo()], [3, 0, 3, 5])
        self.assertEqual(desk.table(), (("@n", "x"), ("b", "y")))

    def test_what_it_told_does_not_change(self):
        desk = begun()
        told = face(desk)
        kept = copy.deepcopy(told)
        desk.say("sync\nput q x\ncut new\nwake")
        desk.undo()
        desk.undo()
        desk.say("put z z")
        self.assertEqual(told, kept)


class TestTwins(unittest.TestCase):
    def test_twin(self):
        desk = begun()
        desk.say("sync")
        desk.undo()
        other = desk.twin()
        self.assertIsInstance(other, Desk)
        self.assertIs(other == desk, True)
        self.assertIs(other != desk, False)
        self.assertEqual((other.redo(), other.undo(), other.undo()), (4, 3, 0))
        refuses(self, NothingDone, other.undo)
        self.assertEqual(face(desk), face(begun()))
        self.assertIs(other == desk, False)
        self.assertIs(other != desk, True)
        self.assertEqual((desk.redo(), desk.undo()), (4, 3))
        other.say("put z z")
        self.assertEqual(face(desk), face(begun()))
        desk.say("cut new new new new")
        self.assertEqual(other.table(), (("z", "z"),))

    def test_equal(self):
        one, other = begun(), Desk(RING)
        for line in ("put a x", "get a", "put b y", "lot drop a, put @n x"):
            other.say(line)
        self.assertIs(one == other, True)
        self.assertEqual((one.undo(), other.undo()), (0, 2))
        self.assertIs(one == other, False)
        one.redo()
        other.redo()
        self.assertIs(one == other, True)
        self.assertIs(Desk(RING) == Desk((8, 4, 3)), False)
        self.assertIs(Desk(RING) != Desk((8, 4, 3)), True)
        # One device, reached by other events.
        one.say("sync")
        one.say("sync")
        other.say("sync")
        self.assertEqual(one.device(), other.device())
        self.assertIs(one == other, False)
        for thing in (None, 5, "x", (), [], Store(RING), one.story()):
            self.assertIs(one == thing, False)
            self.assertIs(one != thing, True)


class TestByHand(unittest.TestCase):
    """A desk beside a store that is asked for the same, and beside stories played by hand."""

    def line_of(self, dice, story, keys):
        """A line by chance."""
        flight = len(story.flight) if story.awake else len(story.mending())
        chance = dice.random()
        if chance < 0.15:
            return dice.choice(("table", "kept", "sync", "get " + dice.choice(keys), "get q"))
        if chance < 0.3 or not story.awake and chance < 0.6:
            many = max(0, flight + dice.choice((0, 0, 0, 0, 1, -1)))
            fates = [dice.choice(FATES) for _ in range(many)]
            if dice.random() < 0.5:
                return " ".join(["cut"] + fates)
            many = dice.choice((many, many, many, many + 1, 10 ** 6))
            return " ".join(["mend", str(many)] + fates)
        if chance < 0.4 or not story.awake and chance < 0.8:
            return "wake"
        deed = deed_of(dice, keys)
        if deed[0] == "lot":
            return "lot " + ", ".join(" ".join(part) for part in deed[1])
        return " ".join(deed)

    def told_by_hand(self, story, line):
        """The answer, and the event if one is done; the story does it."""
        row = line.split(" ")
        event = {"sync": ("sync",), "wake": ("wake",), "cut": ("cut", tuple(row[1:]))}.get(row[0])
        if row[0] == "mend":
            event = ("mend", int(row[1]), tuple(row[2:]))
        if row[0] in ("mend", "wake"):
            if story.awake:
                return "awake"
        elif not story.awake:
            return "asleep"
        table = dict(story.plain(story.begun)) if story.awake else None
        if row[0] == "get":
            return table.get(row[1], "no key")
        if row[0] == "table":
            return ", ".join(f"{key} {table[key]}" for key in sorted(table)) or "empty"
        if row[0] == "kept":
            return str(len(table))
        if event is None:
            deed = tuple(row)
            if row[0] == "lot":
                deed = ("lot", tuple(tuple(part.split(" ")) for part in line[4:].split(", ")))
            if not story.has_room(deed):
                return "full"
            story.deed(deed)
            return "done"
        if row[0] == "cut" and len(event[1]) != len(story.flight):
            return "unfit"
        if row[0] == "mend" and (event[1] != len(event[2]) or event[1] > len(story.mending())):
            return "unfit"
        getattr(story, row[0])(*event[1:])
        return "done"

    def check(self, desk, story):
        self.assertEqual(desk.story(), tuple(story.story))
        self.assertEqual((desk.shape(), desk.device()), (story.shape, story.device()))
        if story.awake:
            self.assertEqual(desk.table(), story.plain(story.begun))
        else:
            refuses(self, Asleep, desk.table)

    def play(self, dice, shape, most):
        desk, past, future = Desk(shape), [], []
        story = StoryByHand(shape)
        keys = "abcdefgh"[:max(1, shape[0] - shape[1] - 1)]
        said = []
        for _ in range(most):
            if dice.random() < 0.2:
                story = self.step_back_or_forth(dice, desk, past, story, future)
            else:
                before, lines, answers = copy.deepcopy(story), [], []
                for _ in range(dice.randint(1, 4)):
                    lines.append(self.line_of(dice, story, keys))
                    answers.append(self.told_by_hand(story, lines[-1]))
                self.assertEqual(desk.say("\n".join(lines)), tuple(answers), lines)
                said.extend(answers)
                if len(story.story) > len(before.story):
                    past.append(before)
                    future.clear()
            self.check(desk, story)
        self.assertIs(is_story(shape, desk.story()), True)
        self.assertEqual(played(shape, desk.story())[1], desk.device())
        return said

    def step_back_or_forth(self, dice, desk, past, story, future):
        """An undo or a redo; the story that there is then."""
        back = dice.random() < 0.5
        come, go = (past, future) if back else (future, past)
        function = desk.undo if back else desk.redo
        if come == []:
            refuses(self, NothingDone, function)
            return story
        go.append(story)
        self.assertEqual(function(), len(come[-1].story))
        return copy.deepcopy(come.pop())

    def test_desks(self):
        dice = dice_of(261)
        said = []
        for shape in safe_shapes(7, 3) + [(16, 10, 2), (16, 4, 5), (12, 4, 2)]:
            said += self.play(dice, shape, 30)
        for answer in ("done", "full", "unfit", "asleep", "awake", "no key", "empty", "0"):
            self.assertGreater(said.count(answer), 10, answer)

    def test_beside_a_store(self):
        """What a store raises, the desk answers."""
        desk, store = begun(), Store(RING)
        store.put("a", "x")
        store.put("b", "y")
        store.lot((("drop", "a"), ("put", "@n", "x")))
        for line, error, answer in (("get q", NoKey, "no key"), ("lot drop a, drop a, drop a", Full, "full"), ("wake",
            Awake, "awake"),
                                    ("mend 0", Awake, "awake"), ("cut new", Unfit, "unfit"), ("put a x", None, "done")):
            row = line.split(" ")
            args = {"get": ("q",), "lot": ((("drop", "a"),) * 3,), "mend": (0, ()), "cut": (("new",),), "put": ("a",
                "x")}
            if error is None:
                getattr(store, row[0])(*args.get(row[0], ()))
            else:
                with self.assertRaises(error):
                    getattr(store, row[0])(*args.get(row[0], ()))
            self.assertEqual(desk.say(line), (answer,))
            self.assertEqual((desk.device(), desk.table()), (store.device(), store.table()))


if __name__ == "__main__":
    unittest.main()
