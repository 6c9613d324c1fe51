"""Point 10: lives that leave a picture, and three lives."""

import itertools
import unittest

from halfring.errors import CanNot, Unfit
from halfring.threelives import agreed, is_three_lives, life_at, picture_of, right_in, three_lives
from tests.helper import (BLANK, DROP, FEW, JUNK, PUT, TORN, WRONG_SHAPES, all_shapes, cut_life, dice_of, fits_by_hand,
                          is_safe_by_hand, life_by_hand, lists, pictures_of, refuses, refuses_each, some_cell,
                          some_life, some_shape, some_wide_shapes, told)
from tests.test_devices import WRONG_PICTURES
from tests.test_log import BRIEF, WRITE, WRONG_LIVES

SHAPE = (5, 3, 2)
NEWER = ((1, PUT), (1, DROP), (1, PUT), (1, DROP), TORN)
UNSAFE = (4, 3, 2)
SMALL = (3, 1, 1)
NO_PLACES = (None, True, "0", 1.0, (0,), {}, -1, 10, 10 ** 6)
# Lives of the shape with five cells that do not end with a cut.
OTHER_ENDS = ((), (WRITE,), (WRITE, ("sync",)), BRIEF + (("wake",),), BRIEF + (("mend", 0, ()),),
              BRIEF + (("mend", 1, ("torn",)),), BRIEF + (("wake",), WRITE))
NONE_STANDS = (("cut", ()),)
ONE_STANDS = (("write", BLANK), ("sync",), ("cut", ()))


def wrong_rows(wrongs):
    """Rows in which each of wrongs stands, alone and beside a life; what is no row, too."""
    rows = [(wrong,) for wrong in wrongs] + [(BRIEF, wrong) for wrong in wrongs]
    return tuple(rows) + tuple(own for own in JUNK if own != ((),))


class TestLifeAt(unittest.TestCase):
    def check(self, shape, picture, place):
        events = life_at(shape, picture, place)
        life = life_by_hand(shape, events)
        self.assertIsNotNone(life, (shape, picture, place))
        self.assertEqual(events[-1][0], "cut")
        self.assertEqual(len(events[-1][1]), shape[1])
        self.assertEqual(life.stands % life.turn(), place)
        self.assertEqual(life.begun, life.stands + shape[1])
        self.assertEqual(tuple(life.picture), picture)

    def check_all(self, shape, picture):
        places = {place for place, _ in fits_by_hand(shape, picture)}
        for place in range(shape[0] * shape[2]):
            if place in places:
                self.check(shape, picture, place)
            else:
                refuses(self, CanNot, life_at, shape, picture, place)
        return len(places)

    def test_in_each_form(self):
        for place in (7, 8, 9):
            told(self, life_at, shape=SHAPE, picture=NEWER, place=place)
            self.check(SHAPE, NEWER, place)
        for place in (0, 1, 2, 3, 4, 5, 6):
            refuses(self, CanNot, life_at, SHAPE, NEWER, place)
            refuses(self, CanNot, life_at, list(SHAPE), lists(NEWER), place)

    def test_all_pictures_of_small_shapes(self):
        for shape in FEW:
            for picture in pictures_of(shape, PUT):
                self.check_all(shape, picture)

    def test_all_shapes(self):
        dice = dice_of(101)
        many = 0
        for shape in all_shapes(8, 5) + some_wide_shapes(dice, 40):
            for _ in range(3):
                many += self.check_all(shape, tuple(cut_life(dice, shape, 20).picture))
            self.check_all(shape, tuple(some_cell(dice, shape) for _ in range(shape[0])))
        self.assertGreater(many, 500)

    def test_each_cut_has_such_a_life(self):
        dice = dice_of(102)
        for _ in range(150):
            life = cut_life(dice, some_shape(dice, 9, 4))
            self.check(life.shape, tuple(life.picture), life.stands % life.turn())

    def test_refusals(self):
        refuses_each(self, Unfit, life_at, (None, NEWER, 10), 0, WRONG_SHAPES)
        refuses_each(self, Unfit, life_at, (SHAPE, None, 0), 1, WRONG_PICTURES)
        refuses_each(self, Unfit, life_at, (SHAPE, (TORN,) * 5, None), 2, NO_PLACES)


class TestEndings(unittest.TestCase):
    def test_picture_of(self):
        self.assertEqual(told(self, picture_of, shape=SHAPE, life=BRIEF), (TORN, (0, PUT)) + ((1, BLANK),) * 3)
        self.assertEqual(picture_of(SHAPE, NONE_STANDS), ((1, BLANK),) * 5)

    def test_right_in(self):
        self.assertEqual(told(self, right_in, shape=SHAPE, life=BRIEF), (0, 1, 2))
        self.assertEqual(right_in(SHAPE, NONE_STANDS), (0,))
        self.assertEqual(right_in(SHAPE, ONE_STANDS), (1,))
        eight = (WRITE,) * 8 + (("sync",),) + (WRITE,) * 3 + (("cut", ("old", "old", "old")),)
        self.assertEqual(told(self, right_in, shape=SHAPE, life=eight), (0, 1, 8, 9))
        self.assertEqual(right_in((4, 3, 1), (WRITE,) * 3 + (("cut", ("torn",) * 3),)), (0, 1, 2, 3))
        self.assertEqual(right_in(SHAPE, BRIEF + (("wake",), WRITE, ("cut", ("new",)))), (0, 1))

    def test_lives_that_end_otherwise(self):
        for function in (picture_of, right_in):
            for life in OTHER_ENDS:
                refuses(self, CanNot, function, SHAPE, life)
                refuses(self, CanNot, function, list(SHAPE), lists(life))

    def test_refusals(self):
        for function in (picture_of, right_in):
            refuses_each(self, Unfit, function, (None, BRIEF), 0, WRONG_SHAPES)
            refuses_each(self, Unfit, function, (SHAPE, None), 1, WRONG_LIVES)

    def test_lives_by_hand(self):
        dice = dice_of(103)
        for _ in range(300):
            life = some_life(dice, some_shape(dice, 9, 4))
            if life.events == [] or life.events[-1][0] != "cut":
                life = cut_life(dice, life.shape)
            events = tuple(life.events)
            self.assertEqual(picture_of(life.shape, events), tuple(life.picture))
            self.assertEqual(right_in(life.shape, events), life.right())


class TestThreeLives(unittest.TestCase):
    def three_by_hand(self, shape, thing):
        """Whether thing is three lives, or two, told by playing them."""
        lives = [life_by_hand(shape, events) for events in thing]
        if None in lives or any(life.events == [] or life.events[-1][0] != "cut" for life in lives):
            return False
        common = set(lives[0].right()).intersection(*[life.right() for life in lives])
        return len(lives) == (2 if shape[2] == 1 else 3) and common == set() and all(
            life.picture == lives[0].picture for life in lives)

    def test_all_shapes(self):
        wide = some_wide_shapes(dice_of(104), 60) + [(16, 11, 2), (16, 10, 2), (15, 10, 2), (16, 15, 2), (16, 15, 3)]
        for shape in all_shapes(8, 5) + wide:
            if is_safe_by_hand(shape):
                refuses(self, CanNot, three_lives, shape)
                continue
            lives = three_lives(shape)
            self.assertIsInstance(lives, tuple)
            self.assertTrue(self.three_by_hand(shape, lives), shape)
            self.assertIs(is_three_lives(shape, lives), True)
            self.assertEqual(agreed(shape, lives), ())
            self.assertEqual(len(lives), 2 if shape[2] == 1 else 3)
            for two in itertools.combinations(lives, 2):
                self.assertEqual(agreed(shape, two) == (), shape[2] == 1)

    def test_just_safe_and_just_not(self):
        for shape, safe in (((4, 2, 2), True), ((4, 3, 2), False), ((3, 2, 2), False), ((3, 1, 2), True),
                            ((5, 3, 2), True), ((5, 4, 2), False), ((6, 4, 2), False), ((2, 1, 2), True),
                            ((2, 1, 1), False), ((3, 2, 3), True), ((9, 1, 1), False), ((16, 15, 3), True)):
            self.assertEqual(is_safe_by_hand(shape), safe)
            if safe:
                refuses(self, CanNot, three_lives, shape)
                refuses(self, CanNot, three_lives, list(shape))
            else:
                told(self, three_lives, shape=shape)
                told(self, is_three_lives, shape=shape, thing=three_lives(shape))

    def test_is_three_lives(self):
        one, two, three = three_lives(UNSAFE)
        whole = (one, two, three)
        for thing in itertools.permutations(whole):
            self.assertIs(told(self, is_three_lives, shape=UNSAFE, thing=thing), True)
        longer = (("sync",),) + three
        self.assertIs(is_three_lives(UNSAFE, (one, two, longer)), True)
        for thing in ((one, two), (one, one, two), (one, two, two), (one, two, three, three), (one,), (),
                      (one, two, three[:-1]), (one, two, three[:-1] + (("sync",), ("cut", ()))),
                      (one, two, three + (("mend", 0, ()),)), (one, two, ()), (one, two, None), list(whole),
                      (list(one), two, three), (one, two, lists(three)), lists(whole), (one, two, NONE_STANDS)):
            self.assertIs(is_three_lives(UNSAFE, thing), False, thing)
        for thing in JUNK + tuple((one, two, wrong) for wrong in WRONG_LIVES):
            self.assertIs(is_three_lives(UNSAFE, thing), False, thing)

    def test_two_lives_with_one_mark(self):
        for thing, wanted in (((NONE_STANDS, ONE_STANDS), True), ((ONE_STANDS, NONE_STANDS), True),
                              ((NONE_STANDS, NONE_STANDS), False), ((NONE_STANDS, ONE_STANDS, ONE_STANDS), False),
                              ((NONE_STANDS,), False), ((NONE_STANDS, ONE_STANDS[:2]), False),
                              ((NONE_STANDS, (WRITE,) + ONE_STANDS[1:]), False),
                              ((NONE_STANDS, ONE_STANDS[:1] + (("cut", ("new",)),)), False)):
            self.assertIs(told(self, is_three_lives, shape=SMALL, thing=thing), wanted, thing)
        self.assertIs(is_three_lives((3, 1, 2), (NONE_STANDS, ONE_STANDS)), False)

    def test_safe_shapes_have_none(self):
        dice = dice_of(105)
        for shape in [own for own in all_shapes(5, 3) if is_safe_by_hand(own)] + [(8, 5, 2), (7, 6, 3)]:
            for _ in range(3):
                picture = tuple(cut_life(dice, shape).picture)
                lives = [life_at(shape, picture, place) for place in {own for own, _ in fits_by_hand(shape, picture)}]
                self.assertNotEqual(agreed(shape, tuple(lives)), ())
                for thing in itertools.combinations(lives, 3):
                    self.assertIs(is_three_lives(shape, thing), False)

    def test_chance(self):
        dice = dice_of(106)
        found = []
        for _ in range(400):
            shape = dice.choice((UNSAFE, (3, 2, 2), (5, 4, 2), (3, 1, 1), (4, 2, 1), (3, 2, 3)))
            thing = list(three_lives(shape)) if not is_safe_by_hand(shape) else [NONE_STANDS] * 3
            thing[dice.randrange(len(thing))] = tuple(cut_life(dice, shape, 6).events)
            wanted = self.three_by_hand(shape, thing)
            self.assertIs(is_three_lives(shape, tuple(thing)), wanted)
            found.append(wanted)
        self.assertGreater(sum(found), 5)
        self.assertLess(sum(found), 395)

    def test_refusals(self):
        refuses_each(self, Unfit, three_lives, (None,), 0, WRONG_SHAPES)
        for thing in ((), None, three_lives(UNSAFE)):
            refuses_each(self, Unfit, is_three_lives, (None, thing), 0, WRONG_SHAPES)


class TestAgreed(unittest.TestCase):
    def test_agreed(self):
        self.assertEqual(told(self, agreed, shape=SHAPE, lives=(BRIEF,)), (0, 1, 2))
        self.assertEqual(told(self, agreed, shape=SHAPE, lives=(BRIEF, BRIEF)), (0, 1, 2))
        one, two, three = three_lives(UNSAFE)
        for lives in ((one, two), (two, three), (one, three), (one, two, three), (three,) * 5):
            wanted = set(life_by_hand(UNSAFE, lives[0]).right()).intersection(
                *[life_by_hand(UNSAFE, own).right() for own in lives])
            self.assertEqual(told(self, agreed, shape=UNSAFE, lives=lives), tuple(sorted(wanted)))

    def test_of_fits_of_one_picture(self):
        dice = dice_of(107)
        for _ in range(60):
            life = cut_life(dice, some_shape(dice, 7, 3))
            shape, picture = life.shape, tuple(life.picture)
            places = sorted({place for place, _ in fits_by_hand(shape, picture)})
            lives = tuple(life_at(shape, picture, place) for place in places)
            wanted = set(life.right())
            for place in places:
                wanted &= {(place + step) % life.turn() for step in range(shape[1] + 1)}
            self.assertEqual(agreed(shape, (tuple(life.events),) + lives), tuple(sorted(wanted)))

    def test_errors_in_order(self):
        refuses_each(self, Unfit, agreed, (None, (BRIEF,)), 0, WRONG_SHAPES)
        refuses_each(self, Unfit, agreed, (SHAPE, None), 1, wrong_rows(WRONG_LIVES))
        for life in OTHER_ENDS:
            for lives in ((life,), (BRIEF, life), (life, BRIEF), (BRIEF, NONE_STANDS, life)):
                refuses(self, CanNot, agreed, SHAPE, lives)
                refuses(self, CanNot, agreed, SHAPE, lists(lives))
            refuses(self, Unfit, agreed, SHAPE, (life, (("wake",),)))
        for lives in ((BRIEF, NONE_STANDS), (NONE_STANDS, NONE_STANDS, BRIEF), (NONE_STANDS, (WRITE,) + ONE_STANDS)):
            refuses(self, Unfit, agreed, SHAPE, lives)
            refuses(self, Unfit, agreed, SHAPE, lists(lives))


if __name__ == "__main__":
    unittest.main()
