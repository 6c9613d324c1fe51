"""Point 17: stories."""

import unittest

from halfring.errors import Unfit, Unsafe
from halfring.meaning import table_of
from halfring.places import answer
from halfring.stories import is_story, kept, played, refused, standing, tables_of
from tests.helper import (BLANK, JUNK, PUT, WRONG_DEEDS, WRONG_SHAPES, StoryByHand, all_shapes, dice_of,
                          is_safe_by_hand, lists, refuses, refuses_each, safe_shapes, some_told, table_by_hand, told)
from tests.test_store import RING as WIDE

RING = (7, 4, 2)
A, B, Z = ("deed", ("put", "a", "x")), ("deed", ("put", "b", "y")), ("deed", ("put", "a", "z"))
GONE, MANY = ("deed", ("drop", "b")), ("deed", ("put", "c", "v"))
PAIR = ("deed", ("lot", (("put", "a", "x"), ("drop", "b"))))
SYNC, WAKE = ("sync",), ("wake",)
EARLY = (A, B, SYNC, Z, GONE)
DARK = EARLY + (("cut", ("torn", "new")),)
LATE = EARLY + (("cut", ("new", "torn")), ("mend", 0, ()), WAKE, ("deed", ("put", "b", "w")), MANY)
UNSAFE = tuple(shape for shape in all_shapes(6, 2) if not is_safe_by_hand(shape))

WRONG_EVENTS = JUNK + tuple(("deed", wrong) for wrong in WRONG_DEEDS) + (
    ("deed",), ("deed", ("put", "a", "x"), 0), ("deed", "put", "a", "x"), ("put", "a", "x"), ("drop", "a"),
    ("write", PUT), ("write", BLANK), ("write", ("put", "a", "x")), ("sync", 0), ("sync", ()), ("wake", ()), WAKE,
    ("cut",), ("cut", None), ("cut", ("new",)), ("cut", "new"), ("cut", (), ()), ("mend", 0, ()), ("mend",),
    ("lot", (("put", "a", "x"), ("drop", "b"))), ("Sync",), ("deeds", ("put", "a", "x")))

WRONG_STORIES = tuple(own for own in JUNK if own not in ((), [])) + tuple((own,) for own in WRONG_EVENTS) + tuple(
    (A, SYNC, own) for own in WRONG_EVENTS) + (
    A, DARK + (SYNC,), DARK + (A,), DARK + (("cut", ()),), DARK + (WAKE, WAKE), DARK + (WAKE, ("mend", 0, ())),
    EARLY + (("cut", ("torn",)),), EARLY + (("cut", ("torn", "new", "new")),), EARLY + (("cut", ("torn", "lost")),),
    DARK + (("mend", 2, ("new", "new")),), DARK + (("mend", 1, ()),), DARK + (("mend", 0, ("new",)),),
    DARK + (("mend", -1, ()),), DARK + (("mend", True, ("new",)),), DARK + (("mend", 0, None),),
    DARK + (("mend", 1, ("lost",)),), DARK + (("mend", None, ()),), DARK + (("mend", 0, ()), A),
    DARK + (("mend", 0, ()), SYNC), (A, ("mend", 0, ())), (("cut", ()), A), (("cut", ()), SYNC), (None, A))


class TestIsStory(unittest.TestCase):
    def test_stories(self):
        for story in ((), EARLY, DARK, LATE, (PAIR,), (SYNC, SYNC), (("cut", ()), WAKE), DARK + (("mend", 1, ("torn",)),),
                      DARK + (("mend", 0, ()),) * 3 + (WAKE, SYNC, ("cut", ())), (MANY,) * 90):
            self.assertIs(told(self, is_story, shape=RING, thing=story), True, story)
            if story != ():
                self.assertIs(is_story(RING, list(story)), False)
                self.assertIs(is_story(RING, story[:-1] + (list(story[-1]),)), False)

    def test_fates_are_of_what_was_written(self):
        """A deed refused puts nothing in flight, one with carried records more than its parts."""
        four = (A, B, MANY, ("deed", ("put", "d", "x")))
        self.assertEqual(refused(RING, four), (2, 3))
        self.assertIs(is_story(RING, four + (("cut", ("new",) * 2),)), True)
        self.assertIs(is_story(RING, four + (("cut", ("new",) * 4),)), False)
        again = (A, B, ("deed", ("drop", "q")), ("deed", ("drop", "q")))
        self.assertEqual(standing(RING, again), (4, 6))
        self.assertIs(is_story(RING, again + (("cut", ("new",) * 2),)), True)
        self.assertIs(is_story(RING, again + (("cut", ("new",) * 4),)), False)

    def test_what_is_none(self):
        for story in WRONG_STORIES + (DARK[:-1] + (("cut", ["torn", "new"]),), DARK + (("mend", 0, []),),
                                      (("deed", list(A[1])),), (("deed", ("lot", list(PAIR[1][1]))),)):
            self.assertIs(is_story(RING, story), False, story)

    def test_shapes(self):
        for thing in ((), None, EARLY):
            refuses_each(self, Unfit, is_story, (None, thing), 0, WRONG_SHAPES)
            refuses_each(self, Unsafe, is_story, (None, thing), 0, UNSAFE)


class TestExamples(unittest.TestCase):
    def test_empty(self):
        self.assertEqual(told(self, played, shape=RING, story=()), ((), (RING, ((1, BLANK),) * 7, ())))
        self.assertEqual(told(self, tables_of, shape=RING, story=()), ())
        self.assertEqual(told(self, refused, shape=RING, story=()), ())
        self.assertEqual(told(self, kept, shape=RING, story=()), ())
        self.assertEqual(told(self, standing, shape=RING, story=()), (0, 0))

    def test_in_each_form(self):
        for story, table, own, none, stand in (
                (EARLY, (("a", "z"),), (0, 1, 3, 4), (), (2, 4)), (DARK, None, (0, 1), (), (2, 4)),
                (DARK + (WAKE,), (("a", "x"), ("b", "y")), (0, 1), (), (2, 2)),
                (LATE, (("a", "z"), ("b", "w")), (0, 1, 3, 8), (9,), (3, 4)),
                (LATE[:6], None, (0, 1, 3), (), (2, 4)), (LATE[:7], None, (0, 1, 3), (), (2, 4))):
            self.assertEqual(told(self, played, shape=RING, story=story)[0], table)
            self.assertEqual(told(self, tables_of, shape=RING, story=story)[-1], table)
            self.assertEqual(told(self, kept, shape=RING, story=story), own)
            self.assertEqual(told(self, refused, shape=RING, story=story), none)
            self.assertEqual(told(self, standing, shape=RING, story=story), stand)

    def test_kept_again_with_other_records(self):
        """Records that a waking has not kept are forgotten: later ones have their numbers."""
        story = (A, ("cut", ("old",)), WAKE, B, SYNC)
        self.assertEqual((kept(RING, story), standing(RING, story)), ((3,), (1, 1)))
        lost = (A, B, ("cut", ("old", "new")), WAKE, B, A, Z)
        self.assertEqual((kept(RING, lost), standing(RING, lost)), ((4, 5, 6), (0, 3)))
        self.assertEqual(played(RING, lost)[0], (("a", "z"), ("b", "y")))

    def test_a_lot_cut_off(self):
        for fates, own, table in ((("new", "old"), (0,), (("b", "y"),)), (("new", "new"), (0, 2), (("a", "x"),)),
                                  (("torn", "new"), (0,), (("b", "y"),))):
            story = (B, SYNC, PAIR, ("cut", fates), WAKE)
            self.assertEqual((kept(RING, story), played(RING, story)[0]), (own, table))
            self.assertEqual(kept(RING, story[:-1]), own)

    def test_passed_over(self):
        """The first put never came to its cell, but the answer passes it over."""
        story = tuple(("deed", ("put", "a", own)) for own in "xyz") + (("cut", ("torn", "new", "new")),)
        self.assertEqual(kept((5, 3, 2), story), (0, 1, 2))
        self.assertEqual(standing((5, 3, 2), story + (WAKE,)), (3, 3))
        self.assertEqual(played((5, 3, 2), story + (WAKE,))[0], (("a", "z"),))

    def test_what_is_refused_changes_nothing(self):
        story = (A, B, MANY, PAIR, Z)
        self.assertEqual(refused(RING, story), (2, 3))
        self.assertEqual(played(RING, story[:3]), played(RING, story[:2]))
        self.assertEqual(tables_of(RING, story)[1:3], ((("a", "x"), ("b", "y")),) * 2)
        self.assertEqual(kept(RING, story), (0, 1, 4))


class TestRefusals(unittest.TestCase):
    def test_in_order(self):
        for function in (played, tables_of, refused, kept, standing):
            refuses_each(self, Unfit, function, (None, ()), 0, WRONG_SHAPES)
            refuses_each(self, Unsafe, function, (None, None), 0, UNSAFE)
            refuses_each(self, Unsafe, function, (None, EARLY), 0, UNSAFE)
            refuses_each(self, Unfit, function, (RING, None), 1, WRONG_STORIES)


class TestByHand(unittest.TestCase):
    """The guarantees, beside stories played by hand and a plain table of the deeds that were not lost."""

    def check(self, by_hand, tables):
        shape, story = by_hand.shape, tuple(by_hand.story)
        many = by_hand.begun if by_hand.awake else by_hand.number_kept()
        table, device = played(shape, story)
        self.assertEqual(device, by_hand.device())
        self.assertEqual(tables_of(shape, story), tuple(tables))
        self.assertEqual(refused(shape, story), tuple(by_hand.refused))
        self.assertEqual(kept(shape, story), by_hand.kept_with(many))
        self.assertEqual(standing(shape, story), (by_hand.stands, by_hand.begun))
        self.assertIs(is_story(shape, story), True)
        if by_hand.awake:
            self.assertEqual(table, by_hand.plain(many))
            self.assertEqual(table, table_of(by_hand.window()))
        else:
            self.assertIsNone(table)
            self.assertEqual(answer(shape, device[1]), many % by_hand.turn())
            self.assertTrue(by_hand.stands <= many <= by_hand.begun)

    def play(self, dice, shape, most, keys, every=7):
        by_hand, tables = StoryByHand(shape), []
        for at in range(most):
            before = list(by_hand.deeds)
            by_hand.tell_on(dice, keys)
            if by_hand.story[-1] == WAKE:
                self.assertEqual(by_hand.deeds, before[:len(by_hand.deeds)])
            tables.append(by_hand.plain(by_hand.begun) if by_hand.awake else None)
            if at % every == 0 or at == most - 1:
                self.check(by_hand, tables)
        return by_hand

    def test_small_shapes(self):
        dice = dice_of(171)
        for shape in safe_shapes(8, 4):
            self.play(dice, shape, 30, "abcdefgh"[:max(1, shape[0] - shape[1])])

    def test_wide_shapes(self):
        dice = dice_of(172)
        many = 0
        for shape in ((16, 10, 2), (16, 15, 3), (16, 8, 2), (16, 3, 2), (16, 10, 5), (13, 8, 2), (15, 9, 2)):
            for _ in range(2):
                by_hand = self.play(dice, shape, 60, "abcdefghijklmnop"[:max(2, shape[0] - shape[1])], 59)
                many += sum(event[0] == "cut" for event in by_hand.story)
                self.assertEqual(len(by_hand.story), 60)
        self.assertGreater(many, 30)

    def test_mending_cut_off_changes_no_answer(self):
        dice = dice_of(173)
        for _ in range(80):
            by_hand = some_told(dice, dice.choice(safe_shapes(8, 4) + [WIDE, (6, 4, 3)]), 25)
            if by_hand.awake:
                by_hand.cut(tuple(dice.choice(("new", "old", "torn")) for _ in by_hand.flight))
            shape, story = by_hand.shape, tuple(by_hand.story)
            own, table = kept(shape, story), played(shape, story + (WAKE,))[0]
            for _ in range(5):
                many = dice.randint(0, len(by_hand.mending()))
                by_hand.mend(many, tuple(dice.choice(("new", "old", "torn")) for _ in range(many)))
                self.assertEqual(kept(shape, tuple(by_hand.story)), own)
                self.assertEqual(standing(shape, tuple(by_hand.story)), standing(shape, story))
                self.assertEqual(played(shape, tuple(by_hand.story) + (WAKE,))[0], table)
            self.assertEqual(kept(shape, tuple(by_hand.story) + (WAKE,)), own)

    def test_what_is_synced_is_kept(self):
        dice = dice_of(174)
        for _ in range(80):
            by_hand = some_told(dice, dice.choice(safe_shapes(9, 3)), 20)
            if not by_hand.awake:
                by_hand.wake()
            shape, story = by_hand.shape, tuple(by_hand.story)
            own, table = kept(shape, story), played(shape, story)[0]
            for more in ((SYNC,), (SYNC, ("cut", ())), (SYNC, ("cut", ()), WAKE), (SYNC, ("cut", ()), ("mend", 0, ()))):
                self.assertEqual(kept(shape, story + more), own)
            self.assertEqual(played(shape, story + (SYNC, ("cut", ()), WAKE))[0], table)
            self.assertEqual(table, table_by_hand(by_hand.window()))
            told(self, tables_of, shape=shape, story=story)
            self.assertEqual(played(shape, lists(story)), played(shape, story))


if __name__ == "__main__":
    unittest.main()
