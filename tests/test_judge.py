"""Point 24: one judge."""

import itertools
import unittest

from halfring.errors import Unfit
from halfring.judge import (first_fallen, is_demand, is_paper_against, is_reason_for, is_so, paper_against, reason_for)
from halfring.outcomes import outcomes
from tests.helper import (BLANK, DROP, FEW, JUNK, PUT, TORN, WRONG_SHAPES, WRONG_TABLES, StoryByHand, all_shapes,
                          dice_of,
                          fits_by_hand, is_safe_by_hand, life_by_hand, lists, pictures_of, refuses, refuses_each,
                          right_by_hand, some_told, told, whole_by_hand)
from tests.test_devices import WRONG_PICTURES
from tests.test_examiner import bars_by_hand, near_by_chance
from tests.test_fits import NO_PLACES
from tests.test_outcomes import short_told, woken_by_hand
from tests.test_stories import DARK, EARLY, RING, SYNC, UNSAFE, WAKE, WRONG_STORIES

FOUR = (4, 2, 2)
FATES = ("new", "old", "torn")
VOID = ((1, BLANK),) * 4
ONE = (("deed", ("put", "a", "x")), ("sync",), ("deed", ("put", "a", "y")))
FALLEN = ((1, PUT), (1, DROP), (0, BLANK), (1, BLANK), TORN)
ODD = ((1, BLANK), (1, BLANK), (0, BLANK), (1, BLANK))
DROPS = (("deed", ("drop", "q")),)

STANDING = (("safe", FOUR), ("safe", (16, 15, 3)), ("safe", (4, 3, 3)), ("can", FOUR, VOID), ("can", (5, 3, 2), FALLEN),
            ("right", FOUR, VOID, 0), ("right", (5, 3, 2), FALLEN, 7), ("comes", FOUR, ONE, (("a", "x"),)),
            ("comes", FOUR, ONE, (("a", "y"),)), ("comes", FOUR, (), ()), ("comes", RING, EARLY, (("a", "z"),)))
FALLING = (("safe", (3, 2, 2)), ("safe", (8, 1, 1)), ("safe", (4, 3, 2)), ("can", FOUR, (TORN,) * 4),
           ("can", (4, 1, 3), ((1, BLANK), (2, BLANK), (0, BLANK), (0, BLANK))), ("right", FOUR, VOID, 1),
           ("right", (4, 3, 2), ODD, 0), ("right", (4, 3, 2), ODD, 1), ("comes", FOUR, ONE, ()),
           ("comes", FOUR, (), (("a", "x"),)), ("comes", RING, EARLY, (("a", "x"),)))

# Eight of sixteen may be in flight at the end of a story, nine may not.
WIDE = (16, 9, 2)
NO_DEMANDS = JUNK + STANDING[0][:1] + (
    ("safe",), ("safe", FOUR, 0), ("can", FOUR), ("can", FOUR, VOID, 0), ("right", FOUR, VOID),
    ("right", FOUR, VOID, 0, 0), ("comes", FOUR, ONE), ("comes", FOUR, ONE, (), ()), ("Safe", FOUR), (None, FOUR),
    ("fits", FOUR, VOID), ("told", FOUR, ONE, ()), ("can", FOUR, ONE, ()), ("told", FOUR, VOID, 0),
    ("can", FOUR, VOID + VOID[:1]), ("right", FOUR, (TORN,) * 4, 0), ("right", FOUR, VOID, 8),
    ("comes", FOUR, ONE + (("cut", ("new",)),), ()), ("comes", FOUR, ONE + (("wake",),), ()), ("comes", RING, DARK, ()),
    ("comes", WIDE, (SYNC,) + DROPS * 9, ()), ("safe", FOUR, VOID), ("right", FOUR, ONE, ()), ("comes", FOUR, VOID, 0),
    ("right", (4, 1, 3), ((1, BLANK), (2, BLANK), (0, BLANK), (0, BLANK)), 5), STANDING[:2])


def stands_by_hand(demand):
    """Whether a demand stands, by the words of the document."""
    word, shape, *more = demand
    if word == "safe":
        return is_safe_by_hand(shape)
    if word == "can":
        return fits_by_hand(shape, more[0]) != []
    if word == "right":
        return more[1] in right_by_hand(shape, more[0], fits_by_hand(shape, more[0]))
    return more[1] in tables_by_hand(shape, more[0])


def played_by_hand(shape, story):
    """A story played by hand."""
    own = StoryByHand(shape)
    for event in story:
        getattr(own, event[0])(*event[1:])
    return own


def tables_by_hand(shape, story):
    """The tables that can be told behind a cut, ascending."""
    own = played_by_hand(shape, story)
    return sorted({woken_by_hand(own, fates)[0] for fates in itertools.product(FATES, repeat=len(own.flight))})


class TestDemands(unittest.TestCase):
    def test_is_demand(self):
        for demand in STANDING + FALLING + (("comes", WIDE, (SYNC,) + DROPS * 8, ()), ("safe", (100, 99, 50))):
            self.assertIs(told(self, is_demand, thing=demand), True, demand)
            self.assertIs(is_demand(list(demand)), False)
            for at in range(1, len(demand)):
                if isinstance(demand[at], tuple) and demand[at] != ():
                    self.assertIs(is_demand(demand[:at] + (lists(demand[at]),) + demand[at + 1:]), False, demand)

    def test_what_is_none(self):
        for wrong in NO_DEMANDS:
            self.assertIs(is_demand(wrong), False, wrong)
            self.assertIs(is_demand(lists(wrong)), False, wrong)
        for wrong in WRONG_SHAPES:
            for more in ((), (VOID,), (VOID, 0), ((), ())):
                for word in ("safe", "can", "right", "comes"):
                    self.assertIs(is_demand((word, wrong, *more)), False)
        for wrong in WRONG_PICTURES:
            self.assertIs(is_demand(("can", (5, 3, 2), wrong)), False, wrong)
            self.assertIs(is_demand(("right", (5, 3, 2), wrong, 0)), False, wrong)
        for wrong in NO_PLACES:
            self.assertIs(is_demand(("right", (5, 3, 2), FALLEN, wrong)), False, wrong)
        for wrong in WRONG_STORIES:
            self.assertIs(is_demand(("comes", RING, wrong, ())), False, wrong)
        for wrong in WRONG_TABLES:
            self.assertIs(is_demand(("comes", RING, EARLY, wrong)), False, wrong)
        for shape in UNSAFE:
            self.assertIs(is_demand(("comes", shape, (), ())), False, shape)

    def test_unfit(self):
        for function, more in ((is_so, ()), (paper_against, ()), (is_paper_against, (None,)), (reason_for, ()),
                               (is_reason_for, (None,))):
            refuses_each(self, Unfit, function, (None, *more), 0, NO_DEMANDS)
        for wrong in NO_DEMANDS:
            refuses(self, Unfit, first_fallen, (wrong,))
            refuses(self, Unfit, first_fallen, STANDING[:2] + (wrong,))
            refuses(self, Unfit, first_fallen, list(FALLING[:1]) + [lists(wrong)])
        for wrong in tuple(own for own in JUNK if own not in ((), [])) + STANDING[:1]:
            refuses(self, Unfit, first_fallen, wrong)


class TestJudged(unittest.TestCase):
    def test_in_each_form(self):
        for demand in STANDING + FALLING:
            so = demand in STANDING
            self.assertIs(stands_by_hand(demand), so, demand)
            self.assertIs(told(self, is_so, demand=demand), so, demand)
            paper, why = told(self, paper_against, demand=demand), told(self, reason_for, demand=demand)
            self.assertEqual((paper is None, why is None), (so, not so), demand)
            self.assertIs(told(self, is_paper_against, demand=demand, thing=paper), not so)
            self.assertIs(told(self, is_reason_for, demand=demand, thing=why), so)

    def test_first_fallen(self):
        for demands, wanted in (((), None), (STANDING, None), (FALLING, 0), (STANDING + FALLING, len(STANDING)),
                                (STANDING[:3] + FALLING[3:5] + STANDING, 3), (STANDING[:1] * 2 + FALLING[-1:], 2)):
            self.assertEqual(told(self, first_fallen, demands=demands), wanted)

    def test_a_number_for_a_safe_shape(self):
        self.assertEqual(reason_for(("safe", (16, 15, 3))), 3)
        for demand, number in ((("safe", (4, 3, 3)), 3), (("safe", FOUR), 2), (("safe", (16, 10, 2)), 2),
                               (("safe", (7, 2, 1)), None), (("safe", (2, 1, 2)), 1)):
            for thing in (-1, 0, 1, 2, 3, True, False, None, "2", 2.0, (2,), (), ()):
                self.assertIs(is_reason_for(demand, thing), type(thing) is int and thing == number, (demand, thing))
        # With one mark the number may be above 0, and the shape is not safe.
        self.assertIs(is_reason_for(("safe", (8, 1, 1)), 5), False)

    def test_three_lives_against_a_safe_shape(self):
        for shape in ((3, 2, 2), (4, 3, 2), (8, 1, 1)):
            lives = paper_against(("safe", shape))
            self.assertEqual(len(lives), 2 if shape[2] == 1 else 3)
            played = [life_by_hand(shape, life) for life in lives]
            self.assertEqual(len({own.device() for own in played}), 1)
            self.assertEqual([place for place in range(shape[0] * shape[2]) if all(
                place in life_by_hand(shape, life[:-1]).right() for life in lives)], [])
            for thing in (lives[:-1], list(lives), lists(lives), (lives[0],) * 3, (), None, lives[0], 5):
                self.assertIs(is_paper_against(("safe", shape), thing), False)
            self.assertIs(is_paper_against(("safe", shape), lives[::-1]), True)
        self.assertIs(is_paper_against(("safe", FOUR), paper_against(("safe", (3, 2, 2)))), False)

    def test_fits_against_a_place(self):
        """A paper is one fit, whichever; the reason is the set of all."""
        demand = ("right", (4, 3, 2), ODD, 0)
        for place, flown in itertools.product(range(-1, 9), range(-1, 5)):
            own = (place, flown) in fits_by_hand((4, 3, 2), ODD) and 0 not in [
                (place + step) % 8 for step in range(flown + 1)]
            self.assertIs(is_paper_against(demand, (place, flown)), own)
            self.assertIs(is_paper_against(demand, [place, flown]), False)
        for thing in JUNK + (((3, 3),), (3, 3, 3), (3, True), ("3", 3)):
            self.assertIs(is_paper_against(demand, thing), False, thing)
        early = ("right", FOUR, VOID, 1)
        self.assertIs(is_paper_against(early, (0, 0)), True)
        for thing in ((False, 0), (0, False), (0, 3), (1, 0)):
            self.assertIs(is_paper_against(early, thing), False, thing)
        one = ("right", (5, 3, 2), FALLEN, 7)
        self.assertEqual(reason_for(one), ((7, 2), (7, 3)))
        for thing in (((7, 2),), ((7, 3), (7, 2)), ((7, 2), (7, 3), (7, 3)), [(7, 2), (7, 3)], ([7, 2], (7, 3)), (),
                      None,
                      ((7, 2), (7, 3), (8, 1)), (7, 2), 7, True):
            self.assertIs(is_reason_for(one, thing), False, thing)
        bare = ("right", FOUR, VOID, 0)
        whole = tuple(fits_by_hand(FOUR, VOID))
        self.assertEqual((whole[:2], is_reason_for(bare, whole)), (((0, 0), (0, 1)), True))
        for start in (((False, 0), (0, 1)), ((0, 0), (0, True)), ((0, False), (0, 1)), ([0, 0], (0, 1))):
            self.assertIs(is_reason_for(bare, start + whole[2:]), False, start)

    def test_a_place_that_is_not_whole_has_all_fits_against_it(self):
        demand = ("right", (5, 3, 2), FALLEN, 8)
        for fit in ((7, 2), (7, 3)):
            self.assertIs(is_paper_against(demand, fit), True)
        self.assertIs(is_paper_against(demand, (7, 1)), False)

    def test_lives_and_reasons_for_a_picture(self):
        can = ("can", FOUR, VOID)
        for thing, wanted in (((("cut", ()),), True), ((), True), ((("write", PUT),), True), ([("cut", ())], False),
                              ((("write", PUT), ("sync",)), False), (None, False), (5, False), ((None,), False)):
            self.assertIs(is_reason_for(can, thing), wanted, thing)
            self.assertIs(is_paper_against(can, thing), False)
        no = ("can", FOUR, (TORN,) * 4)
        row = paper_against(no)
        self.assertEqual(len(row), 8)
        self.assertTrue(all(cell in bars_by_hand(FOUR, (TORN,) * 4, place) for place, cell in enumerate(row)))
        for thing in (row[:-1], list(row), row[:-1] + (4,), (False,) + row[1:], (True,) + row[1:], None, (), ((), row)):
            self.assertIs(is_paper_against(no, thing), False, thing)
            self.assertIs(is_reason_for(no, thing), False, thing)

    def test_fates_and_tables_for_a_story(self):
        for word, wanted in (("x", ("old", "torn")), ("y", ("new",))):
            demand = ("comes", FOUR, ONE, (("a", word),))
            for fate in FATES:
                self.assertIs(is_reason_for(demand, (fate,)), fate in wanted)
                self.assertIs(is_reason_for(demand, [fate]), False)
            for thing in ((), ("new", "new"), ("old", "old"), "old", None, (None,), ("lost",), ("Old",), 5, True,
                          ((),)):
                self.assertIs(is_reason_for(demand, thing), False, thing)
                self.assertIs(is_paper_against(demand, thing), False, thing)
        no = ("comes", FOUR, ONE, ())
        tables = ((("a", "x"),), (("a", "y"),))
        self.assertEqual(paper_against(no), tables)
        for thing in (tables[:1], tables[::-1], list(tables), (list(tables[0]), tables[1]), tables + ((),), (), None,
                      ((["a", "x"],), tables[1]), tables[0]):
            self.assertIs(is_paper_against(no, thing), False, thing)
        self.assertIs(is_paper_against(("comes", FOUR, ONE, tables[0]), tables), False)
        self.assertIs(is_reason_for(no, ("old",)), False)


class TestByHand(unittest.TestCase):
    """The guarantees: a demand stands exactly if there is no paper against it, exactly if there is a reason for it."""

    def check(self, demand):
        so = stands_by_hand(demand)
        self.assertIs(is_demand(demand), True)
        self.assertIs(is_so(demand), so)
        paper, why = paper_against(demand), reason_for(demand)
        self.assertEqual((paper is None, why is None), (so, not so))
        self.assertIs(is_paper_against(demand, paper), not so)
        self.assertIs(is_reason_for(demand, why), so)
        self.assertEqual(first_fallen((demand,)), None if so else 0)
        self.check_handed_out(demand, paper, why)
        return so

    def check_handed_out(self, demand, paper, why):
        word, shape, *more = demand
        if word == "can":
            if why is not None:
                self.assertEqual(life_by_hand(shape, why).device()[1], more[0])
            else:
                self.assertTrue(all(cell in bars_by_hand(shape, more[0], place) for place, cell in enumerate(paper)))
        if word == "right":
            if why is not None:
                self.assertEqual(list(why), fits_by_hand(shape, more[0]))
            else:
                self.assertIn(paper, fits_by_hand(shape, more[0]))
                self.assertNotIn(more[1], right_by_hand(shape, more[0], [paper]))
        if word == "comes":
            if why is not None:
                self.assertEqual(woken_by_hand(played_by_hand(shape, more[0]), why)[0], more[1])
            else:
                self.assertEqual(list(paper), tables_by_hand(shape, more[0]))

    def test_all_shapes(self):
        for shape in all_shapes(9, 4):
            self.assertIs(self.check(("safe", shape)), is_safe_by_hand(shape))

    def test_all_pictures_of_small_shapes(self):
        count = {True: 0, False: 0}
        for shape in FEW[:12]:
            for picture in pictures_of(shape)[::2]:
                count[self.check(("can", shape, picture))] += 1
                if fits_by_hand(shape, picture) != []:
                    for place in range(shape[0] * shape[2]):
                        count[self.check(("right", shape, picture, place))] += 1
        self.assertGreater(min(count.values()), 100)

    def test_pictures_by_chance(self):
        dice = dice_of(241)
        for shape in all_shapes(6, 3) + [(16, 10, 2), (16, 15, 2), (12, 3, 1), (16, 15, 5)]:
            picture = near_by_chance(dice, shape)
            self.check(("can", shape, picture))
            if fits_by_hand(shape, picture) != []:
                for place in dice.sample(range(shape[0] * shape[2]), 2) + whole_by_hand(shape, picture)[:2]:
                    self.check(("right", shape, picture, place))

    def test_stories(self):
        dice = dice_of(242)
        count = {True: 0, False: 0}
        for shape in (FOUR, (5, 3, 2), RING, (8, 4, 2), (9, 5, 2), (4, 3, 3), (16, 10, 2)):
            for _ in range(4):
                story = short_told(dice, shape, 3)
                events = tuple(story.story)
                tables = set(outcomes(shape, events)) | {(), (("a", "x"),), story.plain(story.stands)}
                for table in sorted(tables):
                    count[self.check(("comes", shape, events, table))] += 1
        self.assertGreater(min(count.values()), 20)

    def test_stories_with_mending_cut_off(self):
        dice = dice_of(243)
        for _ in range(20):
            story = some_told(dice, dice.choice((FOUR, RING, (8, 4, 2))), 20)
            demand = ("comes", story.shape, tuple(story.story), ())
            self.assertIs(is_demand(demand), story.awake)
            if not story.awake:
                refuses(self, Unfit, is_so, demand)
                self.assertIs(is_so(("comes", story.shape, tuple(story.story) + (WAKE,), ())), () in tables_by_hand(
                    story.shape, tuple(story.story) + (WAKE,)))


if __name__ == "__main__":
    unittest.main()
