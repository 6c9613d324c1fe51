"""Point 18: outcomes."""

import copy
import itertools
import unittest

from halfring.errors import Asleep, CanNot, TooMany, Unfit, Unsafe
from halfring.outcomes import fates_for, first_parts, kept_with, outcomes, waking
from halfring.records import is_table
from halfring.stories import kept, played, tables_of
from tests.helper import (WRONG_SHAPES, WRONG_TABLES, StoryByHand, dice_of, lists, refuses, refuses_each, safe_shapes,
                          some_told, told)
from tests.test_stories import A, B, DARK, EARLY, GONE, MANY, PAIR, RING, SYNC, UNSAFE, WAKE, WRONG_STORIES, Z
from tests.test_store import NO_FATES_AT_ALL

FATES = ("new", "old", "torn")
THREE = tuple(("deed", ("put", "a", own)) for own in "xyz")
AB = (("a", "x"), ("b", "y"))


def short_told(dice, shape, most_in_flight, most=25):
    """A story by chance, awake at its end, with at most so many writes in flight."""
    while True:
        story = some_told(dice, shape, most)
        if story.awake and len(story.flight) <= most_in_flight:
            return story


def woken_by_hand(story, fates):
    """The pair (table, deeds kept) behind a cut with these fates and a waking, played by hand."""
    other = copy.deepcopy(story)
    other.cut(fates)
    many = other.number_kept()
    own = other.kept_with(many)
    other.wake()
    return other.plain(other.begun), own


class TestWaking(unittest.TestCase):
    def test_in_each_form(self):
        for fates, table, own in ((("new", "new"), (("a", "z"),), (0, 1, 3, 4)),
                                  (("new", "old"), (("a", "z"), ("b", "y")), (0, 1, 3)),
                                  (("old", "new"), AB, (0, 1)), (("torn", "torn"), AB, (0, 1))):
            self.assertEqual(told(self, waking, shape=RING, story=EARLY, fates=fates), table)
            self.assertEqual(told(self, kept_with, shape=RING, story=EARLY, fates=fates), own)
        for fates, table, own in ((("torn", "new", "new"), (("a", "z"),), (0, 1, 2)),
                                  (("new", "torn", "new"), (("a", "x"),), (0,)), (("old",) * 3, (), ()),
                                  (("new", "old", "old"), (("a", "x"),), (0,))):
            self.assertEqual(waking((5, 3, 2), THREE, fates), table)
            self.assertEqual(kept_with((5, 3, 2), THREE, fates), own)
        self.assertEqual(waking(RING, (), ()), ())
        self.assertEqual(kept_with(RING, (A, SYNC), ()), (0,))

    def test_asleep(self):
        for story in (DARK, DARK + (("mend", 0, ()),), (("cut", ()),)):
            for fates in ((), ("new",), ("new", "old")):
                for function in (waking, kept_with):
                    refuses(self, Asleep, function, RING, story, fates)
                    refuses(self, Asleep, function, list(RING), lists(story), list(fates))

    def test_not_as_many_fates(self):
        for function in (waking, kept_with):
            for fates in ((), ("new",), ("new",) * 3):
                refuses(self, Unfit, function, RING, EARLY, fates)
            refuses(self, Unfit, function, RING, EARLY + (SYNC,), ("new",))
            refuses(self, Unfit, function, RING, DARK + (WAKE,), ("new", "new"))


class TestOutcomes(unittest.TestCase):
    def test_in_each_form(self):
        pair = ((), AB)
        lot = (("deed", ("lot", (("put", "a", "x"), ("put", "b", "y")))),)
        for function in (outcomes, first_parts):
            self.assertEqual(told(self, function, shape=RING, story=EARLY),
                             (AB, (("a", "z"),), (("a", "z"), ("b", "y"))))
            self.assertEqual(told(self, function, shape=RING, story=DARK), (AB,))
            self.assertEqual(told(self, function, shape=RING, story=DARK + (WAKE,)), (AB,))
            self.assertEqual(told(self, function, shape=RING, story=lot), pair)
            self.assertEqual(told(self, function, shape=RING, story=()), ((),))
            self.assertEqual(told(self, function, shape=RING, story=EARLY + (SYNC,)), ((("a", "z"),),))
            self.assertEqual(function(RING, (A, A)), ((), (("a", "x"),)))
            self.assertEqual(function((5, 3, 2), THREE), ((), (("a", "x"),), (("a", "y"),), (("a", "z"),)))
            self.assertEqual(function(RING, (B, SYNC, PAIR)), ((("a", "x"),), (("b", "y"),)))

    def test_asleep_nothing_is_left_to_chance(self):
        for fates in itertools.product(FATES, repeat=2):
            story = EARLY + (("cut", fates),)
            wanted = (waking(RING, EARLY, fates),)
            self.assertEqual(outcomes(RING, story), wanted)
            self.assertEqual(first_parts(RING, story), wanted)
            self.assertEqual(outcomes(RING, story + (("mend", 0, ()),)), wanted)

    def test_too_many(self):
        wide = (16, 9, 2)
        drops = (("deed", ("drop", "q")),)
        for many in (8, 9):
            story = (SYNC,) + drops * (many - 1) + (Z,)
            if many == 8:
                self.assertEqual(told(self, outcomes, shape=wide, story=story), ((), (("a", "z"),)))
            else:
                refuses(self, TooMany, outcomes, wide, story)
                refuses(self, TooMany, outcomes, list(wide), lists(story))
            self.assertEqual(first_parts(wide, story), ((), (("a", "z"),)))
            for table in first_parts(wide, story):
                self.assertEqual(waking(wide, story, fates_for(wide, story, table)), table)
            self.assertEqual(outcomes(wide, story + (("cut", ("new",) * many),)), ((("a", "z"),),))

    def test_fates_for(self):
        for table in outcomes(RING, EARLY):
            fates = told(self, fates_for, shape=RING, story=EARLY, table=table)
            self.assertEqual(waking(RING, EARLY, fates), table)
            refuses(self, Asleep, fates_for, RING, DARK, table)
        self.assertEqual(fates_for(RING, (), ()), ())
        for table in ((), (("a", "x"),), (("b", "y"),), (("a", "x"), ("b", "z")), AB + (("c", "v"),)):
            refuses(self, CanNot, fates_for, RING, EARLY, table)
            refuses(self, CanNot, fates_for, list(RING), lists(EARLY), lists(table))
            refuses(self, Asleep, fates_for, RING, DARK, table)


class TestRefusals(unittest.TestCase):
    def test_shape_and_story(self):
        for function, more in ((waking, (("new",),)), (outcomes, ()), (first_parts, ()), (fates_for, ((),)),
                               (kept_with, (("new",),))):
            refuses_each(self, Unfit, function, (None, (), *more), 0, WRONG_SHAPES)
            refuses_each(self, Unsafe, function, (None, None, *more), 0, UNSAFE)
            refuses_each(self, Unfit, function, (RING, None, *more), 1, WRONG_STORIES)

    def test_fates_and_tables(self):
        for story in (EARLY, DARK, ()):
            for function in (waking, kept_with):
                refuses_each(self, Unfit, function, (RING, story, None), 2, NO_FATES_AT_ALL)
                refuses_each(self, Unsafe, function, (UNSAFE[0], story, None), 2, NO_FATES_AT_ALL)
            refuses_each(self, Unfit, fates_for, (RING, story, None), 2, WRONG_TABLES)
        refuses(self, Unsafe, fates_for, UNSAFE[0], None, None)


class TestByHand(unittest.TestCase):
    """The guarantees, with all fates played by hand."""

    def check(self, story):
        shape, events = story.shape, tuple(story.story)
        tables = set()
        for fates in itertools.product(FATES, repeat=len(story.flight)):
            table, own = woken_by_hand(story, fates)
            self.assertEqual(waking(shape, events, fates), table)
            self.assertEqual(kept_with(shape, events, fates), own)
            tables.add(table)
        wanted = tuple(sorted(tables))
        self.assertEqual(outcomes(shape, events), wanted)
        self.assertEqual(first_parts(shape, events), wanted)
        self.assertEqual(first_parts(shape, events), tuple(sorted({story.plain(many) for many in range(
            story.stands, story.begun + 1)})))
        for table in wanted:
            self.assertIs(is_table(table), True)
            self.assertIn(woken_by_hand(story, fates_for(shape, events, table))[0], [table])
        for table in set(tables_of(shape, events)) | {(("a", "q"),)}:
            if table is not None and table not in tables:
                refuses(self, CanNot, fates_for, shape, events, table)
        return len(wanted)

    def test_small_shapes(self):
        dice = dice_of(181)
        many = [self.check(short_told(dice, shape, 3)) for shape in safe_shapes(7, 4)]
        self.assertGreater(len([own for own in many if own > 1]), 20)

    def test_four_and_five_in_flight(self):
        dice = dice_of(182)
        for shape in ((9, 5, 2), (12, 7, 2), (8, 5, 2), (7, 5, 3), (16, 10, 2), (6, 5, 3)):
            self.check(short_told(dice, shape, 4, 15))
        story = StoryByHand((12, 5, 2))
        for event in (A, SYNC, PAIR, B, Z, GONE):
            story.deed(event[1]) if event[0] == "deed" else story.sync()
        self.assertEqual(len(story.flight), 5)
        self.check(story)

    def test_wide_shapes(self):
        dice = dice_of(183)
        for shape in ((16, 10, 2), (16, 15, 3), (15, 9, 2), (16, 8, 2), (16, 4, 2)):
            story = short_told(dice, shape, 15, 60)
            events, many = tuple(story.story), len(story.flight)
            tables = {story.plain(own) for own in range(story.stands, story.begun + 1)}
            self.assertEqual(first_parts(shape, events), tuple(sorted(tables)))
            if many <= 8:
                self.assertEqual(outcomes(shape, events), tuple(sorted(tables)))
            else:
                refuses(self, TooMany, outcomes, shape, events)
            for table in tables:
                self.assertEqual(woken_by_hand(story, fates_for(shape, events, table))[0], table)
            for _ in range(20):
                fates = tuple(dice.choice(FATES) for _ in range(many))
                self.assertEqual((waking(shape, events, fates), kept_with(shape, events, fates)),
                                 woken_by_hand(story, fates))

    def test_as_a_wake_would_leave_it_also_if_mending_is_cut_off(self):
        dice = dice_of(184)
        for _ in range(60):
            story = short_told(dice, dice.choice(safe_shapes(9, 4)), 9)
            shape, events = story.shape, tuple(story.story)
            fates = tuple(dice.choice(FATES) for _ in story.flight)
            table, own = waking(shape, events, fates), kept_with(shape, events, fates)
            story.cut(fates)
            for _ in range(3):
                self.assertEqual(played(shape, tuple(story.story) + (WAKE,))[0], table)
                self.assertEqual(kept(shape, tuple(story.story)), own)
                self.assertEqual(outcomes(shape, tuple(story.story)), (table,))
                many = dice.randint(0, len(story.mending()))
                story.mend(many, tuple(dice.choice(FATES) for _ in range(many)))

    def test_lots_are_whole_or_not_at_all(self):
        dice = dice_of(185)
        for _ in range(40):
            parts = tuple(("put", key, dice.choice("xyz")) for key in "abc"[:dice.choice((2, 3))])
            story = (MANY, SYNC, ("deed", ("lot", parts)))
            whole = tuple(sorted([("c", "v")] + [own[1:] for own in parts])) if len(parts) == 2 else tuple(
                own[1:] for own in parts)
            wanted = tuple(sorted([(("c", "v"),), whole]))
            for shape in ((9, 4, 2), (12, 3, 2), (16, 10, 2)):
                self.assertEqual(outcomes(shape, story), tuple(sorted(set(wanted))))
                self.assertEqual(first_parts(shape, story), outcomes(shape, story))


if __name__ == "__main__":
    unittest.main()
