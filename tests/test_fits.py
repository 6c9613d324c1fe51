"""Point 9: fits."""

import itertools
import unittest

from halfring.devices import cut, cuts
from halfring.errors import CanNot, Unfit
from halfring.fits import (fits, is_fit, is_parting, is_right, least_fits, parting_fits, right_for, right_places)
from halfring.log import begun_log, device_behind, is_life, log_behind, log_synced, logged, stood
from halfring.places import answer, far_places, whole_places
from halfring.shapes import is_safe
from tests.helper import (BLANK, DROP, FEW, JUNK, PUT, TORN, WRONG_SHAPES, dice_of, fits_by_hand, pictures_of, refuses,
                          refuses_each, right_by_hand, some_cell, some_life, some_shape, told)
from tests.test_devices import WRONG_PICTURES

SHAPE = (5, 3, 2)
FALLEN = ((1, PUT), (1, DROP), (0, BLANK), (1, BLANK), TORN)
NEWER = ((1, PUT), (1, DROP), (1, PUT), (1, DROP), TORN)
UNSAFE = (4, 3, 2)
ODD = ((1, BLANK), (1, BLANK), (0, BLANK), (1, BLANK))
APART = ((0, 3), (3, 3), (6, 2))
NO_PAIRS = tuple(own for own in JUNK if own != (1, 2)) + (
    (10, 0), (-1, 0), (7, 4), (7, -1), (7, True), (True, 2), (7, None), ("7", 2), (7, 2, 0), (7,), ((7, 2),), (7, 2.0))
NO_PLACES = (None, True, "0", 1.0, (0,), {}, -1, 10, 10 ** 6)


class TestFits(unittest.TestCase):
    def test_is_fit(self):
        for place, flown in itertools.product(range(-1, 11), range(-1, 5)):
            wanted = (place, flown) in ((7, 2), (7, 3))
            self.assertIs(told(self, is_fit, shape=SHAPE, picture=FALLEN, thing=(place, flown)), wanted)
            self.assertIs(is_fit(SHAPE, FALLEN, [place, flown]), False)
        one = ((1, BLANK), (1, BLANK), (1, BLANK), (1, BLANK))
        for thing in NO_PAIRS + ((0, True), (0, False), (False, 0), (0, 4)):
            self.assertIs(is_fit(UNSAFE, one, thing), False, thing)
        self.assertIs(is_fit(UNSAFE, one, (0, 0)), True)

    def test_fits(self):
        self.assertEqual(told(self, fits, shape=SHAPE, picture=FALLEN), ((7, 2), (7, 3)))
        self.assertEqual(told(self, fits, shape=SHAPE, picture=NEWER),
                         ((7, 2), (7, 3), (8, 1), (8, 2), (8, 3), (9, 0), (9, 1), (9, 2), (9, 3)))
        self.assertEqual(told(self, fits, shape=SHAPE, picture=(TORN,) * 5), ())

    def test_least_fits(self):
        self.assertEqual(told(self, least_fits, shape=SHAPE, picture=FALLEN), ((7, 2),))
        self.assertEqual(told(self, least_fits, shape=SHAPE, picture=NEWER), ((7, 2), (8, 1), (9, 0)))
        self.assertEqual(told(self, least_fits, shape=UNSAFE, picture=ODD), ((0, 3), (3, 3), (5, 3), (6, 2)))
        self.assertEqual(told(self, least_fits, shape=SHAPE, picture=(TORN,) * 5), ())
        self.assertEqual(least_fits((3, 1, 1), ((0, PUT),) * 3), ((0, 0), (1, 0), (2, 0)))

    def test_right_for(self):
        for fit, wanted in (((7, 2), (7, 8, 9)), ((7, 3), (7, 8, 9)), ((8, 1), (8, 9)), ((9, 0), (9,)), ((9, 3), (9,))):
            self.assertEqual(told(self, right_for, shape=SHAPE, picture=NEWER, fit=fit), wanted)
        self.assertEqual(right_for(UNSAFE, ODD, (6, 2)), (0, 6))
        for fit in ((7, 1), (7, 0), (6, 3), (0, 0), (9, 3)):
            refuses(self, CanNot, right_for, SHAPE, FALLEN, fit)
            refuses(self, CanNot, right_for, SHAPE, FALLEN, list(fit))

    def test_right_places(self):
        self.assertEqual(told(self, right_places, shape=SHAPE, picture=FALLEN), (7,))
        self.assertEqual(told(self, right_places, shape=SHAPE, picture=NEWER), (9,))
        self.assertEqual(told(self, right_places, shape=UNSAFE, picture=ODD), ())
        self.assertEqual(told(self, right_places, shape=SHAPE, picture=(TORN,) * 5), ())
        whole_without_fit = ((0, BLANK), (1, BLANK), (0, BLANK), (1, BLANK), (0, BLANK), (1, BLANK))
        self.assertEqual(whole_places((6, 5, 2), whole_without_fit), (0, 1, 3, 5, 8, 10))
        for place in range(10):
            self.assertIs(told(self, is_right, shape=SHAPE, picture=FALLEN, place=place), place == 7)

    def test_no_right_place_without_a_fit(self):
        picture = ((0, BLANK), (1, BLANK), (2, BLANK))
        self.assertEqual(whole_places((3, 2, 4), picture), (1, 5, 9))
        self.assertEqual(fits((3, 2, 4), picture), ())
        self.assertEqual(right_places((3, 2, 4), picture), ())
        self.assertEqual([is_right((3, 2, 4), picture, own) for own in (1, 5, 9)], [False] * 3)
        refuses(self, CanNot, parting_fits, (3, 2, 4), picture)


class TestParting(unittest.TestCase):
    def test_parting_fits(self):
        parting = told(self, parting_fits, shape=UNSAFE, picture=ODD)
        self.assertEqual(len(parting), 3)
        self.assertIs(is_parting(UNSAFE, ODD, parting), True)
        two = told(self, parting_fits, shape=(3, 1, 1), picture=((0, PUT),) * 3)
        self.assertEqual(len(two), 2)
        self.assertIs(is_parting((3, 1, 1), ((0, PUT),) * 3, two), True)
        for picture in (FALLEN, NEWER, (TORN,) * 5):
            refuses(self, CanNot, parting_fits, SHAPE, picture)

    def test_is_parting(self):
        for thing, wanted in ((APART, True), (APART[:2], False), (APART[1:], False), (APART[:1], False), ((), False),
                              (least_fits(UNSAFE, ODD), True), (fits(UNSAFE, ODD), True), (APART[::-1], False),
                              (APART + APART[2:], False), (APART + ((6, 3),), True), (APART + ((7, 0),), False),
                              (((0, 2),) + APART[1:], False)):
            self.assertIs(told(self, is_parting, shape=UNSAFE, picture=ODD, thing=thing), wanted, thing)
        for thing in JUNK + (list(APART), (list(APART[0]),) + APART[1:], APART + (None,), ((False, 3),) + APART[1:]):
            self.assertIs(is_parting(UNSAFE, ODD, thing), False, thing)
        self.assertIs(is_parting(SHAPE, (TORN,) * 5, ()), False)


class TestRefusals(unittest.TestCase):
    def test_shapes_and_pictures(self):
        for function, more in ((is_fit, ((7, 2),)), (fits, ()), (least_fits, ()), (right_for, ((7, 1),)),
                               (right_places, ()), (is_right, (7,)), (parting_fits, ()), (is_parting, (None,))):
            refuses_each(self, Unfit, function, (None, FALLEN, *more), 0, WRONG_SHAPES + ((5, 3, 1), (4, 3, 2)))
            refuses_each(self, Unfit, function, (SHAPE, None, *more), 1, WRONG_PICTURES)

    def test_fits_and_places(self):
        refuses_each(self, Unfit, right_for, (SHAPE, FALLEN, None), 2, NO_PAIRS)
        refuses_each(self, Unfit, is_right, (SHAPE, FALLEN, None), 2, NO_PLACES)


class TestByHand(unittest.TestCase):
    """The guarantees, on all pictures of small shapes and on some of larger ones."""

    def check(self, shape, picture):
        own = fits_by_hand(shape, picture)
        right = right_by_hand(shape, picture, own) if own != [] else []
        least = [(s, flown) for s, flown in own if (s, flown - 1) not in own]
        self.assertEqual(fits(shape, picture), tuple(own))
        self.assertEqual(least_fits(shape, picture), tuple(least))
        self.assertEqual(right_places(shape, picture), tuple(right))
        for fit in own:
            self.assertEqual(right_for(shape, picture, fit), tuple(right_by_hand(shape, picture, [fit])))
        self.check_safe(shape, picture, own, right)
        self.check_parting(shape, picture, own, least, right)

    def check_safe(self, shape, picture, own, right):
        if own != [] and is_safe(shape):
            self.assertIn(answer(shape, picture), right)
        if shape[2] > 1:
            for s, flown in own:
                self.assertEqual(right_by_hand(shape, picture, [(s, flown)]),
                                 right_by_hand(shape, picture, [(s, shape[1])]))

    def check_parting(self, shape, picture, own, least, right):
        if own == [] or right != []:
            refuses(self, CanNot, parting_fits, shape, picture)
            self.assertIs(is_parting(shape, picture, tuple(own)), False)
            return
        parting = parting_fits(shape, picture)
        self.assertEqual(len(parting), 2 if shape[2] == 1 else 3)
        self.assertEqual(list(parting), sorted(set(parting)))
        self.assertLessEqual(set(parting), set(own))
        self.assertEqual(right_by_hand(shape, picture, parting), [])
        self.assertIs(is_parting(shape, picture, parting), True)
        self.assertIs(is_parting(shape, picture, tuple(own)), True)
        for pair in itertools.combinations(least, 2):
            self.assertIs(is_parting(shape, picture, pair), shape[2] == 1)
        for pair in itertools.combinations(own, 2):
            self.assertIs(is_parting(shape, picture, pair), right_by_hand(shape, picture, pair) == [])

    def test_all_pictures_of_small_shapes(self):
        for shape in FEW:
            for picture in pictures_of(shape):
                self.check(shape, picture)

    def test_pictures_of_larger_shapes(self):
        dice = dice_of(31)
        for _ in range(250):
            shape = some_shape(dice, 9, 4)
            picture = tuple(some_life(dice, shape).picture) if dice.random() < 0.8 else tuple(
                some_cell(dice, shape) for _ in range(shape[0]))
            self.check(shape, picture)

    def test_where_nothing_is_right(self):
        found = [(shape, picture) for shape in FEW for picture in pictures_of(shape)
                 if fits(shape, picture) != () and right_places(shape, picture) == ()]
        self.assertGreater(len([own for own in found if own[0][2] == 1]), 10)
        self.assertGreater(len([own for own in found if own[0][2] == 2]), 10)
        self.assertFalse(any(is_safe(shape) for shape, _ in found))


class TestLives(unittest.TestCase):
    def test_each_cut_leaves_a_fit(self):
        dice = dice_of(32)
        for _ in range(250):
            life = some_life(dice, some_shape(dice, 7, 3))
            if not life.awake:
                continue
            shape, log = life.shape, log_behind(life.shape, tuple(life.events))
            fates = tuple(dice.choice(("new", "old", "torn")) for _ in life.flight)
            picture = cut(log[0], fates)[1]
            fit = stood(log), len(fates)
            self.assertIs(is_fit(shape, picture, fit), True)
            self.assertIn(fit, fits(shape, picture))
            if shape[2] > 1:
                wrong = set(whole_places(shape, picture)) - set(right_places(shape, picture))
                self.assertTrue(all(any(own not in right_for(shape, picture, fit) for fit in fits(shape, picture))
                                    for own in wrong))

    def life_with(self, shape, picture, fit):
        """A life, all in flight at its end, that leaves picture so that all ahead of the place of fit stood."""
        cells, flight, marks = shape
        first = fit[0] + 2 * cells * marks
        log, events = begun_log(shape), []
        rows = {number: BLANK for number in range(first + flight)}
        for number in range(first - cells, first):
            own = picture[number % cells]
            if own != TORN and own[0] == number // cells % marks:
                rows[number] = own[1]
        fates = []
        for number in range(first, first + flight):
            own = picture[number % cells]
            came = own != TORN and own[0] == number // cells % marks and marks > 1
            rows[number] = own[1] if came else BLANK
            fates.append("torn" if own == TORN else "new" if came else "old")
        for number in range(first + flight):
            if number == first:
                events.append(("sync",))
                log = log_synced(log)
            events.append(("write", rows[number]))
            log = logged(log, rows[number])
        self.assertEqual(stood(log), fit[0])
        return tuple(events) + (("cut", tuple(fates)),)

    def test_each_fit_has_a_life(self):
        many = 0
        for shape in FEW:
            for picture in pictures_of(shape, PUT)[::3]:
                for fit in fits(shape, picture):
                    life = self.life_with(shape, picture, fit)
                    self.assertIs(is_life(shape, life), True)
                    self.assertEqual(device_behind(shape, life), (shape, picture, ()))
                    many += 1
        self.assertGreater(many, 200)

    def test_what_a_safe_shape_answers_is_right(self):
        dice = dice_of(33)
        for _ in range(60):
            life = some_life(dice, dice.choice(((5, 3, 2), (4, 2, 2), (4, 3, 3), (7, 4, 2))))
            if life.awake and len(life.flight) < 5:
                for picture in cuts(life.device()):
                    self.assertIn(answer(life.shape, picture), right_places(life.shape, picture))
                    self.assertEqual(len(far_places(life.shape, picture)), 1)


if __name__ == "__main__":
    unittest.main()
