"""Point 5: shapes."""

import unittest

from halfring.errors import NoCell, Unfit
from halfring.shapes import (ahead, as_place, cell_of, in_window, is_safe, is_shape, least_cells, least_marks, mark_of,
                             most_flight, place_of, turn_of, window)
from tests.helper import WRONG_SHAPES, all_shapes, lists, refuses, refuses_each, told

SHAPES = all_shapes(8, 5) + [(16, d, m) for d in (1, 7, 10, 15) for m in (1, 2, 5)]
NUMBERS = (0, 1, 4, 5, 9, 10, 23, 999999, -1, -5, -10, -23)


class TestIsShape(unittest.TestCase):
    def test_shapes(self):
        for shape in SHAPES + [(10 ** 9, 10 ** 9 - 1, 10 ** 9)]:
            self.assertIs(told(self, is_shape, thing=shape), True)
            self.assertIs(is_shape(list(shape)), False)

    def test_numbers_of_any_size(self):
        self.assertIs(is_shape((10 ** 5000, 10 ** 4999, 10 ** 5000)), True)
        self.assertIs(is_shape((10 ** 5000, 10 ** 5000, 2)), False)

    def test_others(self):
        for wrong in WRONG_SHAPES:
            self.assertIs(is_shape(wrong), False, wrong)

    def test_others_are_refused(self):
        for function, args in ((window, ()), (turn_of, ()), (is_safe, ()), (cell_of, (1,)), (mark_of, (1,)),
                               (as_place, (1,)), (place_of, (0, 0)), (ahead, (0, 1)), (in_window, (0, 1))):
            refuses_each(self, Unfit, function, (None, *args), 0, WRONG_SHAPES)


    def test_what_is_nested_deeply_is_refused_too(self):
        nest = []
        for _ in range(10000):
            nest = [nest]
        for wrong in (nest, (nest, 2, 2), [5, 2, nest]):
            with self.assertRaises(Unfit):
                window(wrong)
            self.assertIs(is_shape(wrong), False)


class TestMeasures(unittest.TestCase):
    def test_all(self):
        for shape in SHAPES:
            k, d, m = shape
            self.assertEqual(window(shape), k - d)
            self.assertEqual(turn_of(shape), k * m)
            self.assertIs(is_safe(shape), m > 1 and k * m > 3 * d)

    def test_in_each_form(self):
        for shape in ((5, 2, 2), (4, 3, 3), (4, 3, 2), (9, 1, 1)):
            told(self, window, shape=shape)
            told(self, turn_of, shape=shape)
            told(self, is_safe, shape=shape)

    def test_safety(self):
        for k, d, m in SHAPES:
            if m >= 3:
                self.assertIs(is_safe((k, d, m)), True)
            elif m == 2:
                self.assertIs(is_safe((k, d, m)), 3 * d < 2 * k)
            else:
                self.assertIs(is_safe((k, d, m)), False)

    def test_safe_stays_safe(self):
        for k, d, m in SHAPES:
            if is_safe((k, d, m)):
                self.assertTrue(is_safe((k + 1, d, m)) and is_safe((k, d, m + 1)))
                self.assertTrue(d == 1 or is_safe((k, d - 1, m)))


class TestNumbers(unittest.TestCase):
    def test_cells_and_marks(self):
        shape = (5, 2, 2)
        wanted = {0: (0, 0), 4: (4, 0), 5: (0, 1), 9: (4, 1), 10: (0, 0), 23: (3, 0), -1: (4, 1), -5: (0, 1),
                  -6: (4, 0), -10: (0, 0), -11: (4, 1)}
        for number, (cell, mark) in wanted.items():
            self.assertEqual(told(self, cell_of, shape=shape, number=number), cell)
            self.assertEqual(told(self, mark_of, shape=shape, number=number), mark)

    def test_one_place_exactly_if_one_cell_and_mark(self):
        for shape in all_shapes(5, 3):
            seen = {}
            turn = turn_of(shape)
            for number in range(-turn - 3, 2 * turn + 3):
                lies = cell_of(shape, number), mark_of(shape, number)
                self.assertEqual(seen.setdefault(lies, as_place(shape, number)), as_place(shape, number))
                self.assertEqual(place_of(shape, *lies), as_place(shape, number))
            self.assertEqual(len(seen), turn)
            self.assertEqual(len(set(seen.values())), turn)

    def test_each_turn_has_each_once(self):
        for shape in all_shapes(4, 3):
            for first in (-7, 0, 5):
                row = range(first, first + turn_of(shape))
                self.assertEqual(len({(cell_of(shape, own), mark_of(shape, own)) for own in row}), len(row))

    def test_places(self):
        for number in NUMBERS:
            self.assertEqual(told(self, as_place, shape=(5, 2, 2), number=number), number % 10)
            self.assertEqual(told(self, as_place, shape=(4, 3, 3), number=number), number % 12)

    def test_one_mark(self):
        self.assertEqual([mark_of((4, 1, 1), own) for own in (-5, -1, 0, 7)], [0, 0, 0, 0])
        self.assertEqual([as_place((4, 1, 1), own) for own in (-5, -1, 0, 7)], [3, 3, 0, 3])

    def test_place_of(self):
        for shape in ((5, 2, 2), (4, 3, 3), (3, 1, 1)):
            for place in range(turn_of(shape)):
                k = shape[0]
                self.assertEqual(told(self, place_of, shape=shape, cell=place % k, mark=place // k), place)

    def test_no_such_cell_ahead_of_no_such_mark(self):
        shape = (5, 2, 2)
        for cell in (5, 6, -1, 10 ** 6):
            for mark in (0, 2, -1):
                refuses(self, NoCell, place_of, shape, cell, mark, cell=cell)
        for cell in (None, "0", True, 1.0, (0,), [0], [[0], (1,)]):
            kept = (0,) if cell == [0] else ((0,), (1,)) if cell == [[0], (1,)] else cell
            refuses(self, NoCell, place_of, shape, cell, 0, cell=kept)
        for mark in (2, -1, 10 ** 6, None, "0", True):
            refuses(self, Unfit, place_of, shape, 4, mark)
        refuses(self, Unfit, place_of, (5, 5, 2), 5, 0)

    def test_numbers_are_numbers(self):
        for wrong in (None, "1", True, (1,), 1.0):
            for function in (cell_of, mark_of, as_place):
                refuses(self, Unfit, function, (5, 2, 2), wrong)


class TestSteps(unittest.TestCase):
    def test_ahead(self):
        for one, other, steps in ((8, 1, 3), (1, 8, 7), (13, 3, 0), (0, 0, 0), (-1, 0, 1), (0, -1, 9), (25, -4, 1),
                                  (4, 999999, 5)):
            self.assertEqual(told(self, ahead, shape=(5, 2, 2), one=one, other=other), steps)

    def test_ahead_is_the_way_on(self):
        for shape in all_shapes(4, 2):
            turn = turn_of(shape)
            for one in range(-turn, turn):
                for other in range(-turn, turn):
                    steps = ahead(shape, one, other)
                    self.assertIn(steps, range(turn))
                    self.assertEqual(as_place(shape, one + steps), as_place(shape, other))

    def test_in_window(self):
        for number, end, wanted in ((9, 2, True), (8, 2, False), (2, 2, False), (1, 2, True), (3, 2, False),
                                    (-1, 2, True), (-2, 2, False), (19, -8, True), (12, 2, False)):
            self.assertIs(told(self, in_window, shape=(5, 2, 2), number=number, end=end), wanted)

    def test_in_window_by_all_its_numbers(self):
        for shape in all_shapes(5, 3):
            for end in (-3, 0, 7):
                inside = {as_place(shape, end - back) for back in range(1, window(shape) + 1)}
                for number in range(-turn_of(shape), turn_of(shape)):
                    self.assertIs(in_window(shape, number, end), as_place(shape, number) in inside)


class TestLeasts(unittest.TestCase):
    def test_least_marks(self):
        for k in range(2, 17):
            for d in range(1, 20):
                safe = [m for m in range(1, 6) if d < k and is_safe((k, d, m))]
                self.assertEqual(least_marks(k, d), min(safe, default=None))
                self.assertIn(least_marks(k, d), (2, 3) if d < k else (None,))

    def test_most_flight(self):
        for k in range(2, 17):
            for m in range(1, 6):
                safe = [d for d in range(1, k) if is_safe((k, d, m))]
                self.assertEqual(most_flight(k, m), max(safe, default=None))

    def test_least_cells(self):
        for d in range(1, 17):
            for m in range(1, 6):
                safe = [k for k in range(2, 60) if d < k and is_safe((k, d, m))]
                self.assertEqual(least_cells(d, m), min(safe, default=None))

    def test_in_each_form(self):
        self.assertEqual(told(self, least_marks, cells=5, flight=4), 3)
        self.assertEqual(told(self, most_flight, cells=7, marks=2), 4)
        self.assertEqual(told(self, least_cells, flight=4, marks=2), 7)
        self.assertIs(told(self, least_marks, cells=4, flight=4), None)
        self.assertIs(told(self, most_flight, cells=7, marks=1), None)
        self.assertIs(told(self, least_cells, flight=4, marks=1), None)

    def test_no_shape_is_no_safe_one(self):
        self.assertEqual([least_marks(1, 1), least_marks(5, 0), most_flight(1, 2), least_cells(0, 2)], [None] * 4)


class TestLists(unittest.TestCase):
    def test_a_list_is_a_shape_as_an_argument(self):
        for shape in all_shapes(4, 2):
            self.assertEqual(window(lists(shape)), window(shape))
            self.assertEqual(place_of(lists(shape), 1, 0), 1)


if __name__ == "__main__":
    unittest.main()
