"""Point 11: which shapes are safe, and the ends of pictures."""

import unittest

from halfring.errors import CanNot, TooMany, Unfit
from halfring.shapes import is_safe, least_marks
from halfring.table import (ends, has_one_end, is_safe_by_pictures, is_two_ends, life_end, safe_table, two_ends)
from tests.helper import (BLANK, DROP, FEW, JUNK, PUT, TORN, WRONG_SHAPES, all_shapes, cut_life, dice_of, fits_by_hand,
                          is_safe_by_hand, life_by_hand, lists, pictures_of, refuses, refuses_each, right_by_hand,
                          shows_by_hand, some_cell, some_shape, some_wide_shapes, told)
from tests.test_devices import WRONG_PICTURES
from tests.test_log import BRIEF, WRONG_LIVES
from tests.test_threelives import NONE_STANDS, ONE_STANDS, OTHER_ENDS

SHAPE = (5, 3, 2)
VOID = ("write", BLANK)
ONE = (VOID,) * 3 + (("cut", ("torn", "new", "new")),)
OTHER = (VOID,) * 3 + (("sync",),) + (VOID,) * 2 + (("cut", ("old", "torn")),)


def ends_by_hand(shape, picture):
    """The ends of picture, ascending."""
    cells = shape[0]
    places = sorted({place for place, _ in fits_by_hand(shape, picture)})
    return tuple(place for place in places
                 if picture[place % cells] == TORN or shows_by_hand(shape, picture, place - cells))


def end_by_hand(life):
    """The end of a life that ends with a cut."""
    fates = life.events[-1][1]
    came = next((at for at, fate in enumerate(fates) if fate != "new"), len(fates))
    return (life.stands + came) % life.turn()


class TestSafe(unittest.TestCase):
    def test_all_small_shapes(self):
        for shape in all_shapes(5, 6):
            self.assertIs(is_safe_by_pictures(shape), is_safe_by_hand(shape), shape)
            self.assertIs(is_safe_by_pictures(shape), is_safe(shape))

    def test_by_hand(self):
        for shape in all_shapes(4, 3) + [(5, 3, 2), (5, 4, 2), (5, 2, 1), (5, 1, 2)]:
            wanted = all(right_by_hand(shape, picture, own) != [] for picture in pictures_of(shape)
                         for own in [fits_by_hand(shape, picture)] if own != [])
            self.assertIs(is_safe_by_pictures(shape), wanted, shape)

    def test_in_each_form(self):
        for shape, wanted in (((3, 2, 2), False), ((3, 2, 3), True), ((4, 2, 2), True), ((4, 1, 1), False),
                              ((5, 3, 2), True), ((5, 4, 2), False), ((2, 1, 40), True)):
            self.assertIs(told(self, is_safe_by_pictures, shape=shape), wanted)

    def test_too_many(self):
        for shape in ((6, 2, 2), (6, 5, 1), (7, 1, 5), (16, 1, 2), (16, 15, 5)):
            refuses(self, TooMany, is_safe_by_pictures, shape)
            refuses(self, TooMany, is_safe_by_pictures, list(shape))
        refuses_each(self, Unfit, is_safe_by_pictures, (None,), 0, WRONG_SHAPES + ((6, 6, 2), (6, 0, 2), (6, 2, 0)))

    def test_safe_table(self):
        self.assertEqual(told(self, safe_table, most=2), ((2, 1, 2),))
        self.assertEqual(told(self, safe_table, most=4),
                         ((2, 1, 2), (3, 1, 2), (3, 2, 3), (4, 1, 2), (4, 2, 2), (4, 3, 3)))
        for most in range(2, 17):
            table = safe_table(most)
            self.assertIsInstance(table, tuple)
            self.assertEqual([own[:2] for own in table], [(k, d) for k in range(2, most + 1) for d in range(1, k)])
            for cells, flight, marks in table:
                self.assertEqual(marks, 2 if 3 * flight < 2 * cells else 3)
                self.assertEqual(marks, least_marks(cells, flight))
        for most in (1, 0, -1, 17, 10 ** 6, True, False, None, "4", 4.0, (4,), [], {}):
            refuses(self, Unfit, safe_table, most)


class TestEnds(unittest.TestCase):
    def test_ends(self):
        torn = (TORN, (0, BLANK), (0, BLANK), (2, BLANK))
        self.assertEqual(told(self, ends, shape=(4, 3, 3), picture=torn), (0, 3))
        late = ((0, BLANK), TORN, (0, BLANK), (1, BLANK))
        self.assertEqual(told(self, ends, shape=(4, 2, 2), picture=late), (1,))
        self.assertEqual(ends((4, 2, 2), (TORN,) * 4), ())
        self.assertEqual(ends((3, 1, 1), ((0, PUT),) * 3), (0, 1, 2))
        self.assertEqual(ends((3, 1, 1), ((0, PUT), TORN, (0, DROP))), (1,))
        newer = ((1, PUT), (1, DROP), (1, PUT), (1, DROP), TORN)
        self.assertEqual(told(self, ends, shape=SHAPE, picture=newer), (9,))

    def test_all_pictures_of_small_shapes(self):
        for shape in FEW:
            for picture in pictures_of(shape):
                self.assertEqual(ends(shape, picture), ends_by_hand(shape, picture))

    def test_pictures_of_larger_shapes(self):
        dice = dice_of(111)
        for _ in range(250):
            shape = some_shape(dice, 10, 4)
            picture = tuple(cut_life(dice, shape).picture) if dice.random() < 0.7 else tuple(
                some_cell(dice, shape) for _ in range(shape[0]))
            self.assertEqual(ends(shape, picture), ends_by_hand(shape, picture))

    def test_has_one_end(self):
        for shape in all_shapes(16, 5):
            self.assertIs(has_one_end(shape), shape[2] >= 2 and 2 * shape[1] <= shape[0])
        for shape in ((4, 2, 2), (4, 3, 3), (5, 2, 2), (5, 3, 2), (4, 1, 1), (6, 3, 2)):
            told(self, has_one_end, shape=shape)

    def test_has_one_end_of_all_pictures(self):
        for shape in all_shapes(4, 3) + [(5, 2, 2), (5, 3, 2), (5, 3, 1), (6, 3, 2)]:
            wanted = all(len(ends_by_hand(shape, picture)) < 2 for picture in pictures_of(shape))
            self.assertIs(has_one_end(shape), wanted, shape)

    def test_refusals(self):
        picture = ((1, BLANK),) * 5
        refuses_each(self, Unfit, ends, (None, picture), 0, WRONG_SHAPES)
        refuses_each(self, Unfit, ends, (SHAPE, None), 1, WRONG_PICTURES)
        refuses_each(self, Unfit, has_one_end, (None,), 0, WRONG_SHAPES)


class TestLifeEnd(unittest.TestCase):
    def test_life_end(self):
        self.assertEqual(told(self, life_end, shape=(4, 3, 3), life=ONE), 0)
        self.assertEqual(told(self, life_end, shape=(4, 3, 3), life=OTHER), 3)
        for fates, end in ((("new",) * 3, 3), (("new", "new", "old"), 2), (("new", "torn", "new"), 1),
                           (("old", "new", "new"), 0), (("old",) * 3, 0)):
            self.assertEqual(life_end((4, 3, 3), (VOID,) * 3 + (("cut", fates),)), end)
        self.assertEqual(life_end(SHAPE, NONE_STANDS), 0)
        self.assertEqual(life_end(SHAPE, ONE_STANDS), 1)
        round_about = (VOID,) * 9 + (("sync",), VOID, ("cut", ("new",)))
        self.assertEqual(life_end(SHAPE, round_about), 0)
        self.assertEqual(life_end(SHAPE, round_about[:-1] + (("cut", ("torn",)),)), 9)

    def test_lives_by_hand(self):
        dice = dice_of(112)
        for _ in range(300):
            life = cut_life(dice, some_shape(dice, 10, 4))
            end = life_end(life.shape, tuple(life.events))
            self.assertEqual(end, end_by_hand(life))
            self.assertIn(end, ends(life.shape, tuple(life.picture)))

    def test_refusals(self):
        refuses_each(self, Unfit, life_end, (None, BRIEF), 0, WRONG_SHAPES)
        refuses_each(self, Unfit, life_end, (SHAPE, None), 1, WRONG_LIVES + OTHER_ENDS)


class TestTwoEnds(unittest.TestCase):
    def two_by_hand(self, shape, thing):
        """Whether thing, a pair, is such a pair of lives, told by playing them."""
        one, other = [life_by_hand(shape, events) for events in thing]
        for life in (one, other):
            if life is None or life.events == [] or life.events[-1][0] != "cut":
                return False
        return one.picture == other.picture and end_by_hand(one) != end_by_hand(other)

    def test_all_shapes(self):
        for shape in all_shapes(8, 5) + some_wide_shapes(dice_of(113), 60) + [(16, 8, 2), (16, 9, 2), (16, 15, 5)]:
            if shape[2] >= 2 and 2 * shape[1] <= shape[0]:
                refuses(self, CanNot, two_ends, shape)
                refuses(self, CanNot, two_ends, list(shape))
                continue
            pair = two_ends(shape)
            self.assertIsInstance(pair, tuple)
            self.assertEqual(len(pair), 2)
            self.assertTrue(self.two_by_hand(shape, pair), shape)
            self.assertIs(is_two_ends(shape, pair), True)
            self.assertIs(is_two_ends(shape, pair[::-1]), True)

    def test_in_each_form(self):
        for shape in (SHAPE, (4, 1, 1), (4, 3, 3), (2, 1, 1)):
            told(self, two_ends, shape=shape)
            told(self, is_two_ends, shape=shape, thing=two_ends(shape))

    def test_is_two_ends(self):
        shape = (4, 3, 3)
        for thing in ((ONE, OTHER), (OTHER, ONE), (ONE, (("sync",),) + OTHER)):
            self.assertIs(told(self, is_two_ends, shape=shape, thing=thing), True)
        for thing in ((ONE, ONE), (OTHER, OTHER), (ONE,), (ONE, OTHER, ONE), (ONE, OTHER[:-1]), (ONE[:-1], OTHER), (),
                      (ONE, NONE_STANDS), [ONE, OTHER], (list(ONE), OTHER), (ONE, lists(OTHER)), (ONE, ()), (None, ONE),
                      (ONE, OTHER + (("mend", 0, ()),)), (ONE, OTHER + (("wake",),)),
                      (ONE, (VOID,) * 3 + (("cut", ("torn", "new", "old")),)),
                      ((("write", PUT),) + ONE[1:], (VOID, ("write", PUT)) + OTHER[2:])):
            self.assertIs(is_two_ends(shape, thing), False, thing)
        for wrong in JUNK + WRONG_LIVES:
            for thing in (wrong, (ONE, wrong), (wrong, OTHER)):
                self.assertIs(is_two_ends(shape, thing), False, thing)

    def test_unlike_ends_in_one_picture_alone(self):
        dice = dice_of(114)
        found = []
        for _ in range(400):
            shape = dice.choice((SHAPE, (4, 3, 3), (3, 1, 1), (3, 2, 2), (4, 2, 2)))
            pair = [tuple(cut_life(dice, shape, 6).events), tuple(cut_life(dice, shape, 6).events)]
            if dice.random() < 0.6 and not has_one_end(shape):
                pair = list(two_ends(shape))
                pair[dice.randrange(2)] = tuple(cut_life(dice, shape, 6).events)
            wanted = self.two_by_hand(shape, pair)
            self.assertIs(is_two_ends(shape, tuple(pair)), wanted)
            found.append(wanted)
        self.assertGreater(sum(found), 5)

    def test_refusals(self):
        refuses_each(self, Unfit, two_ends, (None,), 0, WRONG_SHAPES)
        for thing in ((ONE, OTHER), None, ()):
            refuses_each(self, Unfit, is_two_ends, (None, thing), 0, WRONG_SHAPES)


if __name__ == "__main__":
    unittest.main()
