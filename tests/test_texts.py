"""Point 25: texts."""

import unittest

from halfring.devices import is_device
from halfring.errors import BadText, Unfit
from halfring.log import is_life
from halfring.signs import words
from halfring.texts import device_text, life_text, read_device, read_life, read_story, story_text
from tests.helper import (BLANK, DROP, JUNK, PUT, TORN, WRONG_DEEDS, WRONG_RECORDS, all_shapes, dice_of, refuses,
                          refuses_each, safe_shapes, some_device, some_life, some_told, some_wide_shapes, told)
from tests.test_devices import WRONG_DEVICES
from tests.test_stories import WRONG_EVENTS

SMALL = ((2, 1, 2), ((1, BLANK), TORN), ((0, (0, PUT)),))
SMALL_TEXT = "ring 2 1 2\ncell 1 blank\ncell torn\nflight 0 0 put a x 0 0\n"
LIFE = (("write", PUT), ("write", DROP), ("write", BLANK), ("sync",), ("cut", ("new", "old", "torn")), ("mend", 0, ()),
        ("mend", 2, ("new", "torn")), ("wake",), ("write", ("put", "@0", "9", 10, 3)), ("cut", ()), ("wake",))
LIFE_TEXT = ("write put a x 0 0\nwrite drop a 0 0\nwrite blank\nsync\ncut new old torn\nmend 0\nmend 2 new torn\nwake\n"
             "write put @0 9 10 3\ncut\nwake\n")
STORY = (("deed", ("put", "a", "x")), ("deed", ("drop", "@put")), ("deed", ("lot", (
    ("put", "put", "drop"), ("drop", "lot"), ("put", "sync", "put")))), ("sync",), ("cut", ("old",)), ("mend", 1,
        ("new",)),
    ("wake",), ("deed", ("lot", (("drop", "a"), ("drop", "a")))), ("cut", ()))
STORY_TEXT = ("put a x\ndrop @put\nlot put put drop drop lot put sync put\nsync\ncut old\nmend 1 new\nwake\n"
              "lot drop a drop a\ncut\n")
# A row of a text of a life or a story that is none, wherever it stands.
NO_POWER_ROWS = ("sync sync", "sync 0", "cut new lost", "cut 0", "cut cut", "wake new", "wake 0", "mend", "mend new",
                 "mend 01", "mend 0 lost", "mend 0 0", "mend 1000000000000", "mend 00", "", "torn", "ring 2 1 2", "new",
                 "cell torn", "flight 0 0 blank", "0", "@", "deed put a x", "get a", "table")
NO_LIFE_ROWS = NO_POWER_ROWS + (
    "write", "write torn", "write blank blank", "write blank 0 0", "write put a x", "write put a x 0",
    "write put a x 0 0 0",
    "write put a x 00 0", "write put a x 0 01", "write put a x 0 x", "write put a @x 0 0", "write put @ x 0 0",
    "write put abcdefghijklm x 0 0", "write put a abcdefghijklm 0 0", "write put @@a x 0 0", "write drop a",
    "write drop a 0", "write drop a x 0 0", "write drop a 0 0 0", "write put a x 0 1000000000000", "write 0 blank",
    "blank",
    "put a x 0 0", "put a x", "drop a", "lot drop a drop b", "write write blank", "write sync", "write drop a@ 0 0")
NO_STORY_ROWS = NO_POWER_ROWS + (
    "put", "put a", "put a x y", "put a @x", "put @ x", "put a x 0 0", "drop", "drop a b", "drop a@",
    "drop abcdefghijklm",
    "put abcdefghijklm x", "put a abcdefghijklm", "lot", "lot put a x", "lot drop a", "lot drop a drop",
    "lot put a x put b",
    "lot put a x drop b c", "lot drop a x", "lot put a x sync", "lot lot drop a drop b drop c", "lot put a drop b",
    "lot drop @ drop b", "write blank", "write put a x 0 0", "blank", "lot put a x y drop b", "lot cut a drop b drop c")


class TestDevices(unittest.TestCase):
    def test_in_each_form(self):
        self.assertEqual(told(self, device_text, device=SMALL), SMALL_TEXT)
        self.assertEqual(told(self, read_device, text=SMALL_TEXT), SMALL)
        bare = ((2, 1, 1), (TORN, TORN), ())
        self.assertEqual(told(self, device_text, device=bare), "ring 2 1 1\ncell torn\ncell torn\n")
        self.assertEqual(told(self, read_device, text="ring 2 1 1\ncell torn\ncell torn"), bare)

    def test_the_longest_words(self):
        cell = (1, ("put", "@abcdefghijkl", "mnopqrstuv12", 10 ** 6, 999999999999))
        device = ((3, 2, 2), (cell, (0, ("drop", "0", 0, 5)), TORN), ((2, cell), (2, (0, BLANK))))
        text = ("ring 3 2 2\ncell 1 put @abcdefghijkl mnopqrstuv12 1000000 999999999999\ncell 0 drop 0 0 5\ncell torn\n"
                "flight 2 1 put @abcdefghijkl mnopqrstuv12 1000000 999999999999\nflight 2 0 blank\n")
        self.assertEqual(device_text(device), text)
        self.assertEqual(read_device(text), device)

    def test_blanks_remarks_and_empty_lines(self):
        text = ("\n # a ring\n  ring   2 1 2#of two\n\ncell 1 blank #torn\n#\ncell torn   \n\n"
                "flight 0 0 put a x 0 0 # A-Z\n\n")
        self.assertEqual(read_device(text), SMALL)

    def test_bad_rows(self):
        rows = SMALL_TEXT.splitlines()
        wrongs = (
            (0, ("ring", "ring 2 1", "ring 2 1 2 0", "ring 1 1 2", "ring 2 2 2", "ring 2 0 2", "ring 2 1 0",
                 "ring 2 1 x",
                 "ring 02 1 2", "rings 2 1 2", "2 1 2", "cell torn", "flight 0 0 blank", "wake", "ring torn",
                 "ring 2 1000000000000 2")),
            (1, ("cells 1 blank", "flight 1 blank", "put 1 blank", "flight torn", "cell", "cell 2 blank", "cell 1",
                 "cell 1 torn", "cell torn torn", "cell blank", "cell 01 blank",
                 "cell 1 put a x 0", "cell 1 put a x", "cell 1 put a x 0 0 0", "cell 1 drop a x 0 0",
                 "cell 1 drop a 00 0",
                 "cell 1 put @ x 0 0", "cell 1 blank 0 0", "torn", "1 blank", "ring 2 1 2",
                 "flight 0 0 put a x 0 0", "cell 1 put abcdefghijklm x 0 0", "cell x blank", "cell 1 1 blank",
                 "cell 1 put a x 0 1000000000000", "cell 0 write blank")),
            (2, ("cell 2 blank", "flight 0 0 blank", "ring 2 1 2", "cell 0 put a x 0 x", "cell @ blank")),
            (3, ("cell 0 0 blank", "flights 0 0 blank", "put 0 0 blank", "flight", "flight 0", "flight 0 0",
                 "flight torn", "flight 0 torn", "flight 2 0 blank", "flight 0 2 blank",
                 "flight x 0 blank", "flight 00 0 blank", "flight 0 00 blank", "flight 0 blank", "cell torn",
                 "ring 2 1 2",
                 "flight 0 0 put a x 0", "flight 0 0 drop @ 0 0", "cell 0 blank", "flight 0 0 blank blank",
                 "0 0 blank")))
        for at, lines in wrongs:
            for wrong in lines:
                for later in (rows[at + 1:], [], ["wake"]):
                    refuses(self, BadText, read_device, "\n".join(rows[:at] + [wrong] + later), line=at)
                text = "\n# so\n" + "\n\n".join(rows[:at] + [wrong] + rows[at + 1:])
                refuses(self, BadText, read_device, text, line=2 + 2 * at)

    def test_too_many_and_too_few(self):
        refuses(self, BadText, read_device, SMALL_TEXT + "flight 0 0 blank", line=4)
        refuses(self, BadText, read_device, SMALL_TEXT + "\n#\nflight 0 0 blank\nflight", line=6)
        refuses(self, BadText, read_device, "ring 2 1 2\ncell torn\ncell torn\ncell torn", line=3)
        for text, line in (("ring 2 1 2", 0), ("\nring 2 1 2\n\n", 1), ("ring 2 1 2\n\ncell torn\n# cell torn\n", 2),
                           ("ring 999999999999 1 2\ncell torn\ncell torn\n\n", 2), ("", 0), ("\n\n", 0),
                           ("# ring 2 1 2", 0),
                           ("\n \n#\n", 0)):
            refuses(self, BadText, read_device, text, line=line)

    def test_signs_go_ahead_of_rows(self):
        refuses(self, BadText, read_device, "rings\ncell A", line=1)
        refuses(self, BadText, read_device, SMALL_TEXT + "a-b", line=4)
        refuses(self, BadText, read_device, "\n\nRing", line=2)

    def test_unfit(self):
        refuses_each(self, Unfit, device_text, (None,), 0, WRONG_DEVICES)


class TestEvents(unittest.TestCase):
    def test_in_each_form(self):
        self.assertEqual(told(self, life_text, life=LIFE), LIFE_TEXT)
        self.assertEqual(told(self, read_life, text=LIFE_TEXT), LIFE)
        self.assertEqual(told(self, story_text, story=STORY), STORY_TEXT)
        self.assertEqual(told(self, read_story, text=STORY_TEXT), STORY)
        for function in (life_text, story_text):
            self.assertEqual(told(self, function, **{function.__name__[:-5]: ()}), "")
        for function in (read_life, read_story):
            for text in ("", "\n", "# wake", "  \n\n#"):
                self.assertEqual(function(text), ())

    def test_how_many_fates_there_are_is_not_looked_at(self):
        events = (("sync",), ("cut", ("new",) * 9), ("mend", 7, ()), ("mend", 0, ("old", "torn")), ("mend", 10 ** 6,
            ("new",)),
                  ("wake",), ("cut", ("torn",)), ("wake",))
        text = ("sync\ncut new new new new new new new new new\nmend 7\nmend 0 old torn\nmend 1000000 new\nwake\n"
                "cut torn\nwake\n")
        for write, read in ((life_text, read_life), (story_text, read_story)):
            self.assertEqual(write(events), text)
            self.assertEqual(read(text), events)

    def test_blanks_remarks_and_empty_lines(self):
        self.assertEqual(read_life("  write  blank # put\n\n#\n cut#new\n wake "), (("write", BLANK), ("cut", ()),
            ("wake",)))
        self.assertEqual(read_story("#!\nput a   x\n\n   lot drop a drop   b#,\n"), (
            ("deed", ("put", "a", "x")), ("deed", ("lot", (("drop", "a"), ("drop", "b"))))))

    def test_bad_rows(self):
        for read, good, rows in ((read_life, "write blank", NO_LIFE_ROWS), (read_story, "put a x", NO_STORY_ROWS)):
            for row in rows:
                if row == "":
                    continue
                refuses(self, BadText, read, row, line=0)
                refuses(self, BadText, read, good + "\n\n#\n  " + row + "\nwake\n", line=3)
                refuses(self, BadText, read, good + "\ncut new\n" + row + "\n", line=2)
                refuses(self, BadText, read, "cut\n\n" + row + "\nsync", line=2)

    def test_bad_order(self):
        for read, good in ((read_life, "write blank"), (read_story, "put a x")):
            for text, line in (("wake", 0), ("mend 0", 0), (good + "\nwake", 1), ("cut\n" + good, 1), ("cut\nsync", 1),
                               ("cut\ncut", 1), ("cut\nwake\nwake", 2), ("cut\nmend 0\nmend 0\nsync", 3),
                               ("cut\nmend 0\n\n" + good, 3), ("cut\nwake\nmend 0", 2), ("sync\nmend 0", 1),
                               ("cut\nmend 0\ncut", 2)):
                refuses(self, BadText, read, text, line=line)
                refuses(self, BadText, read, "\n" + text + "\nnone", line=line + 1)

    def test_signs_go_ahead_of_rows(self):
        for read in (read_life, read_story):
            refuses(self, BadText, read, "wake\nnone\nput a X", line=2)
            refuses(self, BadText, read, "wake\n\nlot put a x, drop b\n!", line=2)

    def test_unfit(self):
        for wrong in tuple(own for own in JUNK if own not in ((), [])):
            refuses(self, Unfit, life_text, wrong)
            refuses(self, Unfit, story_text, wrong)
        for wrong in WRONG_RECORDS:
            refuses(self, Unfit, life_text, (("write", wrong),))
            refuses(self, Unfit, story_text, (("write", wrong),))
        for wrong in WRONG_DEEDS:
            refuses(self, Unfit, story_text, (("deed", wrong),))
            refuses(self, Unfit, life_text, (("deed", wrong),))
        for wrong in WRONG_EVENTS:
            if wrong in (("mend", 0, ()), ("cut", ("new",)), ("wake",), ("write", PUT), ("write", BLANK)):
                continue
            for function in (life_text, story_text):
                refuses(self, Unfit, function, (("sync",), wrong))
                refuses(self, Unfit, function, [("cut", ()), ("wake",), wrong])
        refuses(self, Unfit, story_text, (("write", PUT),))
        refuses(self, Unfit, life_text, STORY[:1])

    def test_unfit_order(self):
        first = {life_text: ("write", PUT), story_text: STORY[0]}
        for function, event in first.items():
            for events in ((("wake",),), (("mend", 0, ()),), (event, ("wake",)), (("cut", ()), event), (("cut", ()),
                ("sync",)),
                           (("cut", ()), ("cut", ())), (("cut", ()), ("wake",), ("wake",)),
                           (("cut", ()), ("mend", 0, ()), event),
                           (("cut", ()), ("wake",), ("mend", 0, ())), (event, event, ("mend", 0, ()))):
                refuses(self, Unfit, function, events)
                refuses(self, Unfit, function, list(events))
                self.assertNotEqual(function(events[:-1] if events[0][0] in ("cut", "write", "deed") else ()), None)


class TestByHand(unittest.TestCase):
    """The guarantee: what is read of a text told here is what it was made of, with blanks and remarks put in, too."""

    def worn(self, dice, text):
        """The same words with more blanks, remarks and empty lines."""
        lines = []
        for line in text.splitlines():
            if dice.random() < 0.3:
                lines.append(dice.choice(("", "# mend 0 lost", "   ")))
            line = dice.choice(("", "  ")) + line.replace(" ", dice.choice((" ", "   ")))
            lines.append(line + dice.choice(("", " # cell", "#", "  ")))
        return "\n".join(lines) + dice.choice(("", "\n", "\n\n# ?"))

    def check(self, dice, write, read, value):
        text = write(value)
        self.assertEqual(read(text), value)
        self.assertEqual(write(read(text)), text)
        self.assertEqual(read(self.worn(dice, text)), value)
        self.assertTrue(text == "" or text.endswith("\n"))
        self.assertEqual(text, "".join(" ".join(line.split(" ")) + "\n" for line in text.splitlines()))
        self.assertEqual(sorted({line for _, line in words(text)}), list(range(len(text.splitlines()))))

    def test_devices(self):
        dice = dice_of(251)
        for shape in all_shapes(6, 3) + some_wide_shapes(dice, 30):
            device = some_device(dice, shape)
            self.assertIs(is_device(device), True)
            self.check(dice, device_text, read_device, device)

    def test_lives(self):
        dice = dice_of(252)
        for shape in all_shapes(5, 3) + some_wide_shapes(dice, 20):
            life = tuple(some_life(dice, shape, 60).events)
            self.assertIs(is_life(shape, life), True)
            self.check(dice, life_text, read_life, life)

    def test_stories(self):
        dice = dice_of(253)
        for shape in safe_shapes(7, 3) + [(16, 10, 2), (16, 4, 5)] * 5:
            self.check(dice, story_text, read_story, tuple(some_told(dice, shape, 60).story))

    def test_all_rows_come_from_the_eldest_on(self):
        dice = dice_of(254)
        device = some_device(dice, (9, 5, 2), True)
        rows = device_text(device).splitlines()
        self.assertEqual([row.split(" ")[0] for row in rows], ["ring"] + ["cell"] * 9 + ["flight"] * 5)
        self.assertEqual([int(row.split(" ")[1]) for row in rows[10:]], [cell for cell, _ in device[2]])


if __name__ == "__main__":
    unittest.main()
