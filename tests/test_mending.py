"""Point 13: mending, waking, and what is lost with the new ones alone mended."""

import itertools
import unittest

from halfring.errors import CanNot, Unfit
from halfring.log import is_life, is_log, log_behind
from halfring.mending import (is_lost_again, is_mended, left_alone, lost_again, mend_writes, mended, new_alone,
                              partly_mended, woken)
from halfring.places import answer, records_ahead
from tests.helper import (BLANK, DROP, FEW, JUNK, PUT, TORN, WRONG_SHAPES, LifeByHand, all_shapes, answer_by_hand,
                          cut_life, dice_of, is_safe_by_hand, life_by_hand, lists, pictures_of, refuses, refuses_each,
                          shows_by_hand, some_cell, some_record, some_shape, some_wide_shapes, told)
from tests.test_devices import WRONG_PICTURES
from tests.test_log import BRIEF, WRITE, WRONG_LIVES

SHAPE = (5, 3, 2)
FALLEN = ((1, PUT), (1, DROP), (0, BLANK), (1, BLANK), TORN)
WIDE = (6, 4, 3)
VOID = ("write", BLANK)
FIRST = (VOID,) * 4 + (("cut", ("old", "old", "new", "new")),)
PASSED = ((2, BLANK), (2, BLANK), (0, BLANK), (0, BLANK), (2, BLANK), (2, BLANK))
AGAIN = FIRST + (("wake",), VOID, ("sync",), ("cut", ()))
FATES = ("new", "old", "torn")
NO_ANSWER = ((1, BLANK), (1, BLANK), (0, BLANK), (1, BLANK))
NO_FATES = (None, True, 5, "", "new", {}, (None,), ("lost",), ("New",), (("new",),), ("new", None), b"new")


class AloneByHand(LifeByHand):
    """A life in which each wake mends the new ones alone."""

    def mending(self):
        """The writes of mending."""
        cells, flight, marks = self.shape
        numbers = [self.answer() + step for step in range(flight)]
        return [(number % cells, ((number - cells) // cells % marks, BLANK)) for number in numbers
                if shows_by_hand(self.shape, self.picture, number)]


def lying(shape, picture, kind=LifeByHand):
    """A life asleep with this picture."""
    life = kind(shape)
    life.picture, life.awake = list(picture), False
    return life


def life_without_mend(dice, shape, most=30):
    """A life of shape by chance, without mend."""
    life = LifeByHand(shape)
    for _ in range(dice.randint(0, most)):
        if not life.awake:
            if life.answer() is None:
                break
            life.wake()
        elif dice.random() < 0.25:
            life.cut(tuple(dice.choice(FATES) for _ in life.flight))
        elif dice.random() < 0.15:
            life.sync()
        else:
            life.write(some_record(dice))
    return life


class TestMending(unittest.TestCase):
    """What mending writes, told by hand."""

    def check(self, dice, shape, picture):
        by_hand = lying(shape, picture)
        if by_hand.answer() is None:
            for function in (mend_writes, mended, is_mended, woken, new_alone):
                refuses(self, CanNot, function, shape, picture)
            refuses(self, CanNot, partly_mended, shape, picture, 0, ())
            return
        writes = by_hand.mending()
        self.assertEqual(mend_writes(shape, picture), tuple(writes))
        many = dice.randint(0, len(writes))
        fates = tuple(dice.choice(FATES) for _ in range(many))
        partly = lying(shape, picture)
        partly.mend(many, fates)
        self.assertEqual(partly_mended(shape, picture, many, fates), tuple(partly.picture))
        self.assertIs(is_mended(shape, picture), writes == [])
        by_hand.wake()
        self.assertEqual(mended(shape, picture), tuple(by_hand.picture))
        place = by_hand.begun % by_hand.turn()
        self.assertEqual(woken(shape, picture), ((shape, tuple(by_hand.picture), ()), place))
        alone = lying(shape, picture, AloneByHand)
        alone.wake()
        self.assertEqual(new_alone(shape, picture), tuple(alone.picture))

    def test_all_pictures_of_small_shapes(self):
        dice = dice_of(131)
        for shape in FEW:
            for picture in pictures_of(shape, PUT):
                self.check(dice, shape, picture)

    def test_pictures_of_larger_shapes(self):
        dice = dice_of(132)
        for shape in all_shapes(8, 4) + some_wide_shapes(dice, 40):
            for _ in range(3):
                self.check(dice, shape, tuple(cut_life(dice, shape).picture))
            self.check(dice, shape, tuple(some_cell(dice, shape) for _ in range(shape[0])))

    def test_in_each_form(self):
        told(self, mend_writes, shape=WIDE, picture=PASSED)
        told(self, mended, shape=WIDE, picture=PASSED)
        told(self, woken, shape=WIDE, picture=PASSED)
        for fates in itertools.product(FATES, repeat=2):
            told(self, partly_mended, shape=WIDE, picture=PASSED, many=2, fates=fates)
        self.assertIs(told(self, is_mended, shape=WIDE, picture=PASSED), False)
        self.assertIs(told(self, is_mended, shape=WIDE, picture=mended(WIDE, PASSED)), True)
        new = ((1, PUT), (1, DROP), (0, PUT), (1, PUT), TORN)
        self.assertEqual(told(self, new_alone, shape=SHAPE, picture=new), new[:3] + ((0, BLANK), TORN))

    def test_torn_cells_are_left(self):
        picture = (TORN, (2, PUT)) + PASSED[2:]
        self.assertEqual(mend_writes(WIDE, picture), ((1, (0, BLANK)),))
        self.assertEqual(mended(WIDE, picture), (TORN, (0, BLANK)) + PASSED[2:])
        self.assertEqual(partly_mended(WIDE, picture, 1, ("torn",)), (TORN, TORN) + PASSED[2:])
        self.assertEqual(partly_mended(WIDE, picture, 0, ()), picture)

    def test_cells_passed_over(self):
        self.assertEqual(answer(WIDE, PASSED), 4)
        self.assertEqual(mend_writes(WIDE, PASSED), ((0, (0, BLANK)), (1, (0, BLANK))))
        self.assertEqual(new_alone(WIDE, PASSED), PASSED)

    def test_with_one_mark(self):
        picture = ((0, PUT), (0, DROP), TORN, (0, PUT), TORN)
        self.assertEqual(answer((5, 3, 1), picture), 2)
        self.assertEqual(mend_writes((5, 3, 1), picture), ())
        self.assertEqual(mended((5, 3, 1), picture), picture)
        # Its cell shows the number of the new one, which is also that of the elder one.
        self.assertEqual(new_alone((5, 3, 1), picture), picture[:3] + ((0, BLANK), TORN))

    def test_no_answer(self):
        for shape, picture in (((4, 3, 2), NO_ANSWER), ((4, 2, 2), (TORN,) * 4), ((3, 1, 1), ((0, PUT),) * 3)):
            for form in (picture, lists(picture)):
                for function in (mend_writes, mended, is_mended, woken, new_alone):
                    refuses(self, CanNot, function, shape, form)
                for many, fates in ((0, ()), (1, ("new",)), (-1, ()), (99, ()), (1, ())):
                    refuses(self, CanNot, partly_mended, shape, form, many, fates)

    def test_refusals(self):
        for function in (mend_writes, mended, is_mended, woken, new_alone):
            refuses_each(self, Unfit, function, (None, FALLEN), 0, WRONG_SHAPES)
            refuses_each(self, Unfit, function, (SHAPE, None), 1, WRONG_PICTURES)
        refuses_each(self, Unfit, partly_mended, (None, FALLEN, 0, ()), 0, WRONG_SHAPES)
        refuses_each(self, Unfit, partly_mended, (SHAPE, None, 0, ()), 1, WRONG_PICTURES)

    def test_how_many_are_begun(self):
        refuses_each(self, Unfit, partly_mended, (WIDE, PASSED, None, ()), 2,
                     (None, True, False, "0", 0.0, (0,), {}, -1, 3, 10 ** 6))
        refuses_each(self, Unfit, partly_mended, (WIDE, PASSED, 1, None), 3, NO_FATES + ((), ("new", "old")))
        for many, fates in ((3, ("new",) * 3), (2, ("new",)), (0, ("new",)), (-1, ()), (1, ("new",) * 2)):
            refuses(self, Unfit, partly_mended, WIDE, PASSED, many, fates)
        self.assertEqual(partly_mended(WIDE, PASSED, 2, ("new", "new")), mended(WIDE, PASSED))


class TestSafe(unittest.TestCase):
    """The guarantees for safe shapes and what lives leave."""

    def shapes(self, dice):
        few = [shape for shape in all_shapes(8, 4) if is_safe_by_hand(shape)]
        return few + [shape for shape in some_wide_shapes(dice, 50) if is_safe_by_hand(shape)]

    def test_cut_off_anywhere_again_and_again(self):
        dice = dice_of(133)
        for shape in self.shapes(dice):
            picture = tuple(cut_life(dice, shape, 40).picture)
            place = answer(shape, picture)
            read = records_ahead(shape, picture, place)
            whole = mended(shape, picture)
            for _ in range(8):
                writes = mend_writes(shape, picture)
                self.assertLessEqual(len(writes), shape[1])
                self.assertEqual(len({cell for cell, _ in writes}), len(writes))
                many = dice.randint(0, len(writes))
                picture = partly_mended(shape, picture, many, tuple(dice.choice(FATES) for _ in range(many)))
                self.assertEqual(answer(shape, picture), place)
                self.assertEqual(records_ahead(shape, picture, place), read)
            self.assertEqual(answer(shape, whole), place)
            self.assertEqual(records_ahead(shape, whole, place), read)
            self.assertEqual(mended(shape, whole), whole)
            self.assertIs(is_mended(shape, whole), True)

    def test_woken_as_a_life_says(self):
        dice = dice_of(134)
        for shape in self.shapes(dice):
            life = cut_life(dice, shape)
            log = woken(shape, tuple(life.picture))
            self.assertIs(is_log(log), True)
            self.assertEqual(log, log_behind(shape, tuple(life.events) + (("wake",),)))

    def test_new_ones_alone_do_if_three_flights_are_below_two_rings(self):
        dice = dice_of(135)
        for shape in self.shapes(dice):
            if 3 * shape[1] < 2 * shape[0]:
                for _ in range(3):
                    self.check_alone(dice, shape)

    def check_alone(self, dice, shape):
        life = AloneByHand(shape)
        for _ in range(40):
            if not life.awake:
                end = life.answer()
                self.assertIsNotNone(end)
                self.assertLessEqual((end - life.stands) % life.turn(), life.begun - life.stands)
                life.wake()
            elif dice.random() < 0.3:
                life.cut(tuple(dice.choice(FATES) for _ in life.flight))
            else:
                life.write(BLANK)
        events = tuple(life.events)
        self.assertEqual(left_alone(shape, events), tuple(life.picture))
        self.assertIs(is_lost_again(shape, events), False)


class TestLeftAlone(unittest.TestCase):
    def test_left_alone(self):
        self.assertEqual(told(self, left_alone, shape=WIDE, life=FIRST), PASSED)
        self.assertEqual(told(self, left_alone, shape=WIDE, life=FIRST + (("wake",),)), PASSED)
        self.assertEqual(told(self, left_alone, shape=WIDE, life=AGAIN), PASSED[:4] + ((0, BLANK), (2, BLANK)))
        self.assertEqual(told(self, left_alone, shape=SHAPE, life=()), ((1, BLANK),) * 5)

    def test_what_is_in_flight_is_not_written(self):
        self.assertEqual(left_alone(SHAPE, (WRITE, WRITE)), ((1, BLANK),) * 5)
        self.assertEqual(left_alone(SHAPE, (WRITE,) * 4), ((0, PUT),) * 3 + ((1, BLANK),) * 2)
        self.assertEqual(left_alone(SHAPE, BRIEF + (("wake",), WRITE)), (TORN,) + ((1, BLANK),) * 4)

    def test_by_hand(self):
        dice = dice_of(136)
        ended = []
        for _ in range(1200):
            shape = dice.choice((some_shape(dice, 8, 4), (3, 2, 3), (6, 4, 3), (5, 4, 3), (5, 4, 4)))
            life = life_without_mend(dice, shape)
            events = tuple(life.events)
            alone = life_by_hand(shape, events, AloneByHand)
            if alone is None:
                refuses(self, CanNot, left_alone, shape, events)
            else:
                self.assertEqual(left_alone(shape, events), tuple(alone.picture))
            ended.append(alone is None)
        self.assertGreater(sum(ended), 10)

    def test_no_answer_at_some_wake(self):
        self.assertIs(is_life(WIDE, AGAIN + (("wake",),)), True)
        for life in (AGAIN + (("wake",),), AGAIN + (("wake",), VOID, ("sync",)), AGAIN + (("wake",), ("cut", ()))):
            refuses(self, CanNot, left_alone, WIDE, life)
            refuses(self, CanNot, left_alone, list(WIDE), lists(life))

    def test_refusals(self):
        refuses_each(self, Unfit, left_alone, (None, BRIEF), 0, WRONG_SHAPES)
        refuses_each(self, Unfit, left_alone, (SHAPE, None), 1, WRONG_LIVES)
        for life in (BRIEF + (("mend", 0, ()),), BRIEF + (("mend", 1, ("new",)), ("wake",), WRITE)):
            refuses(self, Unfit, left_alone, SHAPE, life)
            refuses(self, Unfit, left_alone, SHAPE, lists(life))
        first = AGAIN + (("wake",), VOID, ("cut", ("new",)), ("mend", 0, ()))
        self.assertIs(is_life(WIDE, first), True)
        refuses(self, Unfit, left_alone, WIDE, first)


class TestLostAgain(unittest.TestCase):
    def lost_by_hand(self, shape, events):
        """Whether events are such a life, told by playing it."""
        if events == () or events[-1][0] != "cut" or any(event[0] == "mend" for event in events):
            return False
        life, alone = life_by_hand(shape, events), life_by_hand(shape, events, AloneByHand)
        return life is not None and alone is not None and answer_by_hand(shape, alone.picture) is None

    def test_all_shapes(self):
        wide = some_wide_shapes(dice_of(137), 80) + [(16, 15, 3), (16, 15, 5), (15, 10, 3), (15, 9, 3), (16, 11, 4)]
        for shape in all_shapes(8, 5) + wide:
            if not is_safe_by_hand(shape) or 3 * shape[1] < 2 * shape[0]:
                refuses(self, CanNot, lost_again, shape)
                refuses(self, CanNot, lost_again, list(shape))
                continue
            events = lost_again(shape)
            self.assertTrue(self.lost_by_hand(shape, events), shape)
            self.assertIs(is_lost_again(shape, events), True)
            refuses(self, CanNot, answer, shape, left_alone(shape, events))

    def test_in_each_form(self):
        for shape in (WIDE, (3, 2, 3), (5, 4, 4)):
            events = told(self, lost_again, shape=shape)
            self.assertIs(told(self, is_lost_again, shape=shape, thing=events), True)
        self.assertIs(told(self, is_lost_again, shape=WIDE, thing=AGAIN), True)
        self.assertIs(told(self, is_lost_again, shape=WIDE, thing=FIRST), False)

    def test_is_lost_again(self):
        for thing in ((), AGAIN[:-1], AGAIN[:-2], AGAIN + (("wake",),), AGAIN + (("wake",), ("cut", ())),
                      FIRST + (("mend", 0, ()),) + AGAIN[5:], AGAIN + (("mend", 0, ()),), list(AGAIN), lists(AGAIN),
                      AGAIN[:-1] + (("cut", []),), AGAIN[:-1] + (("cut", ("new",)),), AGAIN + (("cut", ()),),
                      (("cut", ()),)):
            self.assertIs(is_lost_again(WIDE, thing), False, thing)
        for thing in JUNK + WRONG_LIVES:
            self.assertIs(is_lost_again(SHAPE, thing), False, thing)

    def test_an_earlier_wake_without_an_answer(self):
        mended_since = AGAIN + (("wake",), VOID, ("cut", ("torn",)))
        self.assertIs(is_life(WIDE, mended_since), True)
        self.assertIs(told(self, is_lost_again, shape=WIDE, thing=mended_since), False)

    def test_of_shapes_that_are_not_safe(self):
        self.assertIs(is_lost_again((3, 1, 1), (("cut", ()),)), True)
        self.assertIs(is_lost_again((3, 1, 1), (("write", PUT), ("cut", ("torn",)))), False)

    def test_chance(self):
        dice = dice_of(138)
        found = []
        for _ in range(500):
            shape = dice.choice((some_shape(dice, 6, 4), (3, 2, 3), WIDE, (5, 4, 3), (5, 4, 4)))
            life = life_without_mend(dice, shape) if dice.random() < 0.8 else cut_life(dice, shape)
            if life.awake:
                life.cut(tuple(dice.choice(FATES) for _ in life.flight))
            wanted = self.lost_by_hand(shape, tuple(life.events))
            self.assertIs(is_lost_again(shape, tuple(life.events)), wanted)
            found.append(wanted)
        self.assertGreater(sum(found), 10)

    def test_refusals(self):
        refuses_each(self, Unfit, lost_again, (None,), 0, WRONG_SHAPES)
        for thing in (AGAIN, (), None):
            refuses_each(self, Unfit, is_lost_again, (None, thing), 0, WRONG_SHAPES)


if __name__ == "__main__":
    unittest.main()
