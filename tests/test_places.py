"""Point 8: places."""

import unittest

from halfring.errors import CanNot, Unfit
from halfring.places import (answer, far_places, gaps, is_whole, places_shown, records_ahead, run_ahead, shows,
                             whole_places)
from tests.helper import (BLANK, DROP, FEW, PUT, TORN, WRONG_SHAPES, answer_by_hand, dice_of, far_by_hand, pictures_of,
                          refuses, refuses_each, shows_by_hand, some_cell, some_life, some_shape, told, whole_by_hand,
                          LifeByHand)
from tests.test_devices import WRONG_PICTURES

SHAPE = (5, 3, 2)
FALLEN = ((1, PUT), (1, DROP), (0, BLANK), (1, BLANK), TORN)
NEWER = ((1, PUT), (1, DROP), (1, PUT), (1, DROP), TORN)
NO_NUMBERS = (None, True, "0", 1.0, (0,), {})
NO_PLACES = NO_NUMBERS + (-1, 10, 11, 10 ** 6)


def some_picture(dice, shape):
    """A picture of shape, by chance, or as a life can leave it."""
    if dice.random() < 0.5:
        return tuple(some_cell(dice, shape) for _ in range(shape[0]))
    return tuple(some_life(dice, shape).picture)


class TestShown(unittest.TestCase):
    def test_shows(self):
        for number in range(-23, 24):
            wanted = number % 10 in (5, 6, 2, 8)
            self.assertIs(told(self, shows, shape=SHAPE, picture=FALLEN, number=number), wanted)

    def test_places_shown(self):
        self.assertEqual(told(self, places_shown, shape=SHAPE, picture=FALLEN), (5, 6, 2, 8, None))
        self.assertEqual(places_shown((3, 1, 1), (TORN, (0, PUT), (0, BLANK))), (None, 1, 2))

    def test_run_ahead(self):
        for place, many in enumerate((0, 0, 0, 1, 0, 0, 1, 2, 0, 1)):
            self.assertEqual(told(self, run_ahead, shape=SHAPE, picture=FALLEN, place=place), many)

    def test_run_ahead_is_not_more_than_all_cells(self):
        for marks in (1, 2, 3):
            picture = ((marks - 1, BLANK),) * 4
            self.assertEqual(run_ahead((4, 1, marks), picture, 0), 4)
        self.assertEqual([run_ahead((4, 1, 1), ((0, BLANK),) * 4, own) for own in range(4)], [4, 4, 4, 4])
        self.assertEqual([run_ahead((4, 1, 2), ((1, BLANK),) * 4, own) for own in range(8)], [4, 0, 0, 0, 0, 1, 2, 3])


class TestWhole(unittest.TestCase):
    def test_whole_places(self):
        self.assertEqual(told(self, whole_places, shape=SHAPE, picture=FALLEN), (7,))
        self.assertEqual(told(self, whole_places, shape=SHAPE, picture=NEWER), (7, 8, 9))
        self.assertEqual(told(self, whole_places, shape=(4, 1, 3), picture=(TORN,) * 4), ())
        for place in range(10):
            self.assertIs(told(self, is_whole, shape=SHAPE, picture=NEWER, place=place), place in (7, 8, 9))

    def test_gaps(self):
        self.assertEqual(told(self, gaps, shape=SHAPE, picture=FALLEN), ((7, 10),))
        self.assertEqual(told(self, gaps, shape=SHAPE, picture=NEWER), ((7, 1), (8, 1), (9, 8)))
        self.assertEqual(told(self, gaps, shape=(4, 1, 3), picture=(TORN,) * 4), ())
        self.assertEqual(gaps((3, 1, 1), ((0, BLANK),) * 3), ((0, 1), (1, 1), (2, 1)))
        self.assertEqual(gaps((3, 1, 1), (TORN, (0, BLANK), (0, BLANK))), ((0, 3),))

    def test_far_places(self):
        self.assertEqual(told(self, far_places, shape=SHAPE, picture=FALLEN), (7,))
        self.assertEqual(told(self, far_places, shape=SHAPE, picture=NEWER), (9,))
        two = ((0, BLANK), (1, BLANK), (1, BLANK), (0, BLANK))
        self.assertEqual(told(self, far_places, shape=(4, 3, 2), picture=two), ())
        apart = ((0, BLANK), (1, BLANK), (0, BLANK), (1, BLANK), (0, BLANK), (1, BLANK))
        self.assertEqual(told(self, whole_places, shape=(6, 5, 2), picture=apart), (0, 1, 3, 5, 8, 10))
        self.assertEqual(told(self, far_places, shape=(6, 1, 2), picture=((0, BLANK),) * 5 + (TORN,)), (5,))

    def test_answer(self):
        self.assertEqual(told(self, answer, shape=SHAPE, picture=FALLEN), 7)
        self.assertEqual(told(self, answer, shape=SHAPE, picture=NEWER), 9)
        refuses(self, CanNot, answer, SHAPE, (TORN,) * 5)
        refuses(self, CanNot, answer, (4, 1, 1), ((0, BLANK),) * 4)

    def test_no_answer_of_two_far_places(self):
        for shape, picture, far in (((4, 3, 3), ((0, BLANK), TORN, (1, BLANK), TORN), (1, 7)),
                                    ((4, 3, 4), ((0, BLANK), TORN, TORN, (2, BLANK)), (1, 12))):
            self.assertEqual(told(self, far_places, shape=shape, picture=picture), far)
            refuses(self, CanNot, answer, shape, picture)

    def test_records_ahead(self):
        self.assertEqual(told(self, records_ahead, shape=SHAPE, picture=FALLEN, place=7), (PUT, DROP))
        self.assertEqual(told(self, records_ahead, shape=SHAPE, picture=NEWER, place=9), (PUT, DROP))
        self.assertEqual(told(self, records_ahead, shape=SHAPE, picture=NEWER, place=8), (DROP, PUT))
        round_the_turn = ((0, PUT), (1, DROP), (1, BLANK))
        self.assertEqual(records_ahead((3, 1, 2), round_the_turn, 1), (BLANK, PUT))
        for place in (0, 1, 6, 8, 9):
            refuses(self, CanNot, records_ahead, SHAPE, FALLEN, place)


class TestRefusals(unittest.TestCase):
    def test_shapes_and_pictures(self):
        for function, more in ((shows, (0,)), (places_shown, ()), (run_ahead, (0,)), (is_whole, (0,)),
                               (whole_places, ()), (gaps, ()), (far_places, ()), (answer, ()), (records_ahead, (0,))):
            refuses_each(self, Unfit, function, (None, FALLEN, *more), 0, WRONG_SHAPES + ((5, 3, 1), (4, 3, 2)))
            refuses_each(self, Unfit, function, (SHAPE, None, *more), 1, WRONG_PICTURES)

    def test_numbers_and_places(self):
        refuses_each(self, Unfit, shows, (SHAPE, FALLEN, None), 2, NO_NUMBERS)
        for function in (run_ahead, is_whole, records_ahead):
            refuses_each(self, Unfit, function, (SHAPE, FALLEN, None), 2, NO_PLACES)


class TestByHand(unittest.TestCase):
    def check(self, shape, picture):
        turn = shape[0] * shape[2]
        whole, far = whole_by_hand(shape, picture), far_by_hand(shape, picture)
        self.assertEqual(whole_places(shape, picture), tuple(whole))
        self.assertEqual(far_places(shape, picture), tuple(far))
        for place, steps in gaps(shape, picture):
            self.assertEqual([own for own in range(1, steps) if (place + own) % turn in whole], [])
            self.assertTrue((place + steps) % turn in whole and 1 <= steps <= turn)
        self.assertEqual([place for place, _ in gaps(shape, picture)], whole)
        self.assertLessEqual(len(far), turn // (shape[1] + 1))
        if len(far) == 1:
            self.assertEqual(answer(shape, picture), far[0])
        else:
            refuses(self, CanNot, answer, shape, picture)

    def check_runs(self, shape, picture):
        turn = shape[0] * shape[2]
        self.assertEqual(places_shown(shape, picture), tuple(
            next((own for own in range(cell, turn, shape[0]) if shows_by_hand(shape, picture, own)), None)
            for cell in range(shape[0])))
        for place in range(turn):
            self.assertIs(shows(shape, picture, place), shows_by_hand(shape, picture, place))
            run = run_ahead(shape, picture, place)
            later = run_ahead(shape, picture, (place + 1) % turn)
            self.assertEqual(later, min(run + 1, shape[0]) if shows(shape, picture, place) else 0)
            self.assertIs(is_whole(shape, picture, place), run >= shape[0] - shape[1])

    def test_all_pictures_of_small_shapes(self):
        for shape in FEW:
            for picture in pictures_of(shape):
                self.check(shape, picture)
                if shape[0] <= 4:
                    self.check_runs(shape, picture)

    def test_pictures_of_larger_shapes(self):
        dice = dice_of(21)
        for _ in range(300):
            shape = some_shape(dice, 10, 5)
            picture = some_picture(dice, shape)
            self.check(shape, picture)
            self.check_runs(shape, picture)
            for place in whole_places(shape, picture):
                row = records_ahead(shape, picture, place)
                cells = [number % shape[0] for number in range(place - shape[0] + shape[1], place)]
                self.assertEqual(row, tuple(picture[cell][1] for cell in cells))


class TestLives(unittest.TestCase):
    """The guarantee for all lives of a safe shape, at each moment."""

    def check(self, life):
        cells, flight, marks = life.shape
        turn, picture = cells * marks, tuple(life.picture)
        stands, begun = life.stands, life.begun
        whole = whole_places(life.shape, picture)
        self.assertLessEqual(begun, stands + flight)
        self.assertIn(stands % turn, whole)
        arc = [own for own in range(stands - flight, stands + flight + 1) if own % turn in whole]
        self.assertEqual({own % turn for own in arc}, set(whole))
        self.assertTrue(all(later - own <= flight for own, later in zip(arc, arc[1:])))
        self.assertLessEqual(max(arc), begun)
        self.assertEqual(far_places(life.shape, picture), (max(arc) % turn,))
        self.assertLessEqual((answer(life.shape, picture) - stands) % turn, begun - stands)

    def test_all(self):
        dice = dice_of(22)
        for _ in range(120):
            shape = some_shape(dice, 8, 4)
            if shape[2] < 2 or shape[2] * shape[0] <= 3 * shape[1]:
                continue
            life = LifeByHand(shape)
            for _ in range(dice.randint(1, 60)):
                self.assertTrue(life.go_on(dice))
                self.check(life)
                self.assertEqual(answer(shape, tuple(life.picture)), answer_by_hand(shape, life.picture))


if __name__ == "__main__":
    unittest.main()
