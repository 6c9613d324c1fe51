"""Point 20: wear."""

import unittest

from halfring.errors import CanNot, Unfit
from halfring.log import is_life
from halfring.wear import is_worst_life, most_spread, spread, wear, worst_life
from tests.helper import (BLANK, DROP, PUT, WRONG_SHAPES, LifeByHand, all_shapes, dice_of, is_safe_by_hand,
                          life_by_hand, lists, refuses, refuses_each, some_wide_shapes, told)
from tests.test_log import BRIEF, SHAPE, WRONG_LIVES
from tests.test_meaning import NO_NATURALS

RING = (6, 3, 2)
NOTE = ("write", PUT)
WAKE = ("wake",)
STORY = (NOTE, NOTE, ("cut", ("old", "new")), WAKE, NOTE, NOTE)
AGAIN = STORY[:3] + (("mend", 1, ("old",)),) + STORY[3:]
FATES = ("new", "old", "torn")


class WornByHand(LifeByHand):
    """A life as it goes on, and the cells that are begun: by its writes, and by each mend or wake."""

    def __init__(self, shape):
        super().__init__(shape)
        self.laps = [[]]
        self.mendings = []

    def write(self, record):
        """One more record."""
        super().write(record)
        self.laps[-1].append((self.begun - 1) % self.shape[0])

    def mend(self, many, fates):
        """Mending is begun, and the power goes again."""
        self.mendings.append([cell for cell, _ in self.mending()[:many]])
        super().mend(many, fates)

    def wake(self):
        """Mending is done, and the row goes on from the answer."""
        self.mendings.append([cell for cell, _ in self.mending()])
        super().wake()
        self.laps.append([])

    def times(self):
        """For each cell how often it was begun."""
        begun = [cell for cells in self.laps + self.mendings for cell in cells]
        return tuple(begun.count(cell) for cell in range(self.shape[0]))

    def spread(self):
        """The greatest of these less the least."""
        return max(self.times()) - min(self.times())


def most_by_hand(shape, mends, wakes):
    """The most spread by the words of the document."""
    return 1 + wakes if shape[1] == 1 else 1 + mends + 2 * wakes


def worn(dice, shape, most):
    """A life of shape by chance, its cells counted."""
    life = WornByHand(shape)
    for _ in range(most):
        if not life.go_on(dice):
            break
    return life


class TestWear(unittest.TestCase):
    def test_in_each_form(self):
        for shape, life, wanted in (
                (RING, (), (0,) * 6), (RING, STORY[:2], (1, 1, 0, 0, 0, 0)), (RING, STORY[:3], (1, 1, 0, 0, 0, 0)),
                (RING, STORY[:4], (1, 2, 0, 0, 0, 0)), (RING, STORY, (2, 3, 0, 0, 0, 0)),
                (RING, AGAIN, (2, 4, 0, 0, 0, 0)), ((4, 1, 2), (NOTE,) * 9, (3, 2, 2, 2)),
                ((2, 1, 1), (NOTE, ("sync",), NOTE, NOTE), (2, 1)),
                # Whatever becomes of what mending begins, and none of it where none is begun.
                (RING, STORY[:3] + (("mend", 1, ("torn",)), ("mend", 0, ()), WAKE), (1, 2, 0, 0, 0, 0)),
                (RING, STORY[:3] + (("mend", 1, ("new",)), WAKE), (1, 2, 0, 0, 0, 0))):
            self.assertEqual(told(self, wear, shape=shape, life=life), wanted)
            self.assertEqual(told(self, spread, shape=shape, life=life), max(wanted) - min(wanted))

    def test_just_the_first_writes_of_a_mend_are_begun(self):
        shape, first = (6, 4, 3), (("write", BLANK),) * 4 + (("cut", ("old", "old", "new", "new")),)
        for many in range(3):
            life = first + (("mend", many, ("old",) * many),)
            self.assertEqual(wear(shape, life), (1 + (many > 0), 1 + (many > 1), 1, 1, 0, 0))

    def test_unfit(self):
        for function in (wear, spread):
            refuses_each(self, Unfit, function, (None, ()), 0, WRONG_SHAPES)
            refuses_each(self, Unfit, function, (SHAPE, None), 1, WRONG_LIVES)


class TestMostSpread(unittest.TestCase):
    def test_in_each_form(self):
        for shape, mends, wakes, wanted in ((RING, 0, 0, 1), (RING, 0, 1, 3), (RING, 1, 1, 4), (RING, 6, 6, 19),
                                            ((4, 1, 2), 5, 2, 3), ((4, 1, 2), 9, 0, 1), ((2, 1, 1), 0, 0, 1),
                                            ((5, 4, 1), 2, 3, 9), (RING, 10 ** 6, 10 ** 6, 3 * 10 ** 6 + 1)):
            self.assertEqual(told(self, most_spread, shape=shape, mends=mends, wakes=wakes), wanted)

    def test_unfit(self):
        for function in (most_spread, worst_life):
            refuses_each(self, Unfit, function, (None, 1, 1), 0, WRONG_SHAPES)
            for shape in (RING, (6, 4, 2), (2, 1, 2)):
                refuses_each(self, Unfit, function, (shape, None, 1), 1, NO_NATURALS)
                refuses_each(self, Unfit, function, (shape, 0, None), 2, NO_NATURALS)


class TestWorstLife(unittest.TestCase):
    def test_in_each_form(self):
        for shape, mends, wakes in ((RING, 2, 3), (RING, 0, 0), (RING, 3, 0), ((4, 1, 2), 2, 2), ((16, 10, 2), 6, 6)):
            life = told(self, worst_life, shape=shape, mends=mends, wakes=wakes)
            self.assertIs(told(self, is_worst_life, shape=shape, thing=life), True)

    def test_for_all_safe_shapes(self):
        for shape in all_shapes(9, 5) + [(16, d, m) for d in (1, 2, 9, 10, 13, 14) for m in (2, 3, 5)]:
            if not is_safe_by_hand(shape) or shape[0] - shape[1] == 1:
                refuses(self, CanNot, worst_life, shape, 0, 1)
                refuses(self, CanNot, worst_life, list(shape), 0, 0)
                continue
            for mends, wakes in ((0, 0), (0, 1), (1, 0), (1, 1), (3, 2), (6, 6), (6, 0), (0, 6)):
                life = worst_life(shape, mends, wakes)
                by_hand = life_by_hand(shape, life, WornByHand)
                words = [event[0] for event in life]
                self.assertEqual((words.count("mend"), words.count("wake")), (mends, wakes))
                self.assertEqual(by_hand.spread(), most_by_hand(shape, mends, wakes))
                self.assertEqual(spread(shape, life), by_hand.spread())
                self.assertIs(is_worst_life(shape, life), True)

    def test_can_not(self):
        for shape in ((6, 4, 2), (3, 2, 2), (4, 1, 1), (2, 1, 2), (4, 3, 3), (16, 15, 5), (16, 11, 2)):
            refuses(self, CanNot, worst_life, shape, 1, 1)
            refuses(self, CanNot, worst_life, shape, 0, 0)

    def test_what_is_none(self):
        for thing in ((), STORY[:3] + (WAKE,), STORY[:5], AGAIN[:-1], list(STORY), STORY[:-1] + (list(NOTE),), None, 5,
                      "x", True, NOTE, (WAKE,), STORY + (WAKE,), STORY + (None,), (NOTE,) * 6, (("sync",),), []):
            self.assertIs(is_worst_life(RING, thing), False, thing)
        for wrong in WRONG_LIVES:
            self.assertIs(is_worst_life(SHAPE, wrong), False, wrong)
        for thing in (STORY, AGAIN, (NOTE,), (NOTE,) * 3, (NOTE,) * 7, (NOTE, ("cut", ("torn",)))):
            self.assertIs(is_worst_life(RING, thing), True, thing)
        for wrong in WRONG_SHAPES:
            refuses(self, Unfit, is_worst_life, wrong, None)

    def test_shapes_that_are_not_safe(self):
        """Whether a shape is safe is asked by worst_life alone."""
        for shape in ((6, 4, 2), (3, 2, 2), (4, 1, 1), (2, 1, 1)):
            self.assertIs(is_worst_life(shape, (NOTE,)), True)
            self.assertIs(is_worst_life(shape, (NOTE,) * shape[0]), False)
            self.assertEqual(wear(shape, (NOTE,)), (1,) + (0,) * (shape[0] - 1))
        self.assertIs(is_worst_life((6, 4, 2), STORY), True)


class TestByHand(unittest.TestCase):
    """The guarantees, with the cells counted by hand."""

    def check(self, life):
        shape, events = life.shape, tuple(life.events)
        words = [event[0] for event in events]
        self.assertEqual(wear(shape, events), life.times())
        self.assertEqual(spread(shape, events), life.spread())
        most = most_by_hand(shape, words.count("mend"), words.count("wake"))
        self.assertEqual(most_spread(shape, words.count("mend"), words.count("wake")), most)
        self.assertLessEqual(life.spread(), most)
        self.assertIs(is_worst_life(shape, events), life.spread() == most)
        for cells in life.laps:
            times = [cells.count(cell) for cell in range(shape[0])]
            self.assertLessEqual(max(times) - min(times), 1)
            self.assertTrue(all(later == (one + 1) % shape[0] for one, later in zip(cells, cells[1:])))
        for cells in life.mendings:
            self.assertEqual(len(set(cells)), len(cells))
            self.assertTrue(cells == [] or shape[1] > 1)

    def test_lives_of_all_small_shapes(self):
        dice = dice_of(201)
        for shape in all_shapes(6, 3):
            for _ in range(8):
                self.check(worn(dice, shape, 60))

    def test_lives_of_wide_shapes(self):
        dice = dice_of(202)
        mendings = 0
        for shape in some_wide_shapes(dice, 60) + [(16, 10, 2), (16, 15, 3), (16, 9, 2)] * 4:
            life = worn(dice, shape, 60)
            self.check(life)
            mendings += len([cells for cells in life.mendings if cells != []])
        self.assertGreater(mendings, 40)

    def test_each_first_part(self):
        """What is begun so far never hangs on what comes later."""
        dice = dice_of(203)
        for shape in (RING, SHAPE, (8, 5, 2), (4, 3, 3)):
            events = tuple(worn(dice, shape, 40).events)
            for many in range(len(events) + 1):
                self.check(life_by_hand(shape, events[:many], WornByHand))

    def test_other_records_wear_alike(self):
        life = BRIEF + (WAKE, ("write", DROP))
        other = (("write", BLANK),) * 2 + life[2:4] + (NOTE,)
        self.assertEqual(wear(SHAPE, life), wear(SHAPE, other))
        self.assertEqual(wear(SHAPE, lists(life)), wear(SHAPE, life))
        self.assertIs(is_life(SHAPE, life), True)


if __name__ == "__main__":
    unittest.main()
