"""Point 21: readers without a lock."""

import itertools
import unittest

from halfring.errors import CanNot, Unfit
from halfring.log import begun_log, log_synced, logged
from halfring.readers import (is_wrong_looks, moments, most_begun, reads_right, right_by_numbers, seen,
                              told as told_table, wrong_looks)
from tests.helper import (BLANK, DROP, PUT, TORN, WRONG_RECORDS, WRONG_SHAPES, StoryByHand, all_shapes, answer_by_hand,
                          dice_of, is_safe_by_hand, lists, refuses, refuses_each, some_record, some_wide_shapes,
                          table_by_hand, told)
from tests.test_devices import WRONG_PICTURES
from tests.test_log import LOG as HELD
from tests.test_log import SHAPE, WRONG_LOGS
from tests.test_meaning import NO_NATURALS, wrong_rows

START = logged(logged(begun_log(SHAPE), PUT), ("put", "b", "y", 0, 0))
LOG = logged(log_synced(START), ("put", "c", "x", 0, 0))
MORE = (("put", "a", "z", 0, 0), ("drop", "b", 0, 0))
TABLES = [(("a", "x"), ("b", "y")), (("b", "y"), ("c", "x")), (("a", "z"), ("c", "x")), (("a", "z"),)]
ODD = ((1, BLANK), (1, BLANK), (0, BLANK), (1, BLANK))
WRONG_LOOKS = (None, True, 5, "", "00000", (), (0,), (0,) * 4, (0,) * 6, (0, 0, 0, 0, -1), (0, 0, 0, 0, None),
               (True, 0, 0, 0, 0), (0, False, 0, 0, 0), (0, 0, "0", 0, 0), (0, 0, 0, 1.0, 0), ((0,) * 5,), {},
               ((0,),) * 5)


def bound_by_hand(shape):
    """The bound by the words of the document."""
    cells, flight, marks = shape
    return -1 if marks == 1 else min(flight, marks * cells - 2 * flight - 1)


class ReadByHand:
    """Records written one behind the other, and what a reader sees who looks at each cell at some time of it.

    row are all records that stand, then those begun; told by their numbers from first - len(stood) on. Of each cell it
    is known which number was written there last, None if it is torn or the device was not told by a log."""

    def __init__(self, shape, first, cells, begun):
        self.shape = shape
        self.first = first
        self.times = [list(cells)]
        for at, record in enumerate(begun):
            own = list(self.times[-1])
            number = first + at
            own[number % shape[0]] = (number, (number // shape[0] % shape[2], record))
            self.times.append(own)

    def look(self, looks):
        """The pairs (number, content) that a reader with these looks sees."""
        return [self.times[many][cell] for cell, many in enumerate(looks)]

    def picture(self, looks):
        """The picture that it sees."""
        return tuple(content for _, content in self.look(looks))

    def is_right(self, looks):
        """Whether it reads right."""
        cells, flight, marks = self.shape
        own = self.look(looks)
        place = answer_by_hand(self.shape, self.picture(looks))
        for step in range(max(looks) + 1):
            end = self.first + step
            numbers = range(end - cells + flight, end)
            if place == end % (marks * cells) and all(own[number % cells][0] == number for number in numbers):
                return True
        return False


def reading_of(log, records):
    """The same of a log."""
    (shape, picture, flight), place = log
    first = place - len(flight)
    cells = []
    for cell, content in enumerate(picture):
        cells.append((first - 1 - (first - 1 - cell) % shape[0], content))
    return ReadByHand(shape, first, cells, [content[1] for _, content in flight] + list(records))


def reading_from(shape, number, many, record=BLANK):
    """The same where number records stand, all behind one another, and as many more are written."""
    cells, _, marks = shape
    stood = [number - 1 - (number - 1 - cell) % cells for cell in range(cells)]
    return ReadByHand(shape, number, [(own, (own // cells % marks, BLANK)) for own in stood], [record] * many)


def all_looks(cells, most):
    """All looks none of which is above most."""
    return itertools.product(range(most + 1), repeat=cells)


class TestSeen(unittest.TestCase):
    def test_in_each_form(self):
        c, z, b = (0, ("put", "c", "x", 0, 0)), (0, MORE[0]), (0, MORE[1])
        a, own = (0, PUT), (0, ("put", "b", "y", 0, 0))
        void = (1, BLANK)
        for looks, wanted in (((0, 0, 0, 0, 0), (a, own, void, void, void)), ((0, 2, 3, 0, 2), (a, own, c, void, void)),
                              ((0, 0, 1, 1, 0), (a, own, c, void, void)), ((3, 3, 3, 3, 3), (a, own, c, z, b)),
                              ((3, 0, 0, 2, 3), (a, own, void, z, b)), ((0, 0, 0, 1, 2), (a, own, void, void, void))):
            self.assertEqual(told(self, seen, log=LOG, records=MORE, looks=looks), wanted)
        self.assertEqual(told(self, seen, log=LOG, records=(), looks=(1,) * 5), (a, own, c, void, void))
        self.assertEqual(told(self, seen, log=begun_log((2, 1, 1)), records=(), looks=(0, 0)), ((0, BLANK),) * 2)

    def test_the_newest_in_a_cell_counts(self):
        log = begun_log((2, 1, 3))
        rows = (PUT, DROP, BLANK, DROP, PUT)
        self.assertEqual(seen(log, rows, (5, 5)), ((2, PUT), (1, DROP)))
        self.assertEqual(seen(log, rows, (4, 3)), ((1, BLANK), (0, DROP)))
        self.assertEqual(seen(log, rows, (2, 1)), ((0, PUT), (2, BLANK)))

    def test_torn_cells(self):
        half = ((SHAPE, HELD[0][1][:2] + (TORN, (0, BLANK), TORN), HELD[0][2]), 9)
        self.assertEqual(seen(half, (), (0,) * 5)[2:], (TORN, (0, BLANK), TORN))
        self.assertEqual(seen(half, (BLANK,), (3,) * 5)[2:], ((1, PUT), (1, DROP), (1, BLANK)))

    def test_unfit(self):
        for function in (seen, reads_right):
            refuses_each(self, Unfit, function, (None, MORE, (0,) * 5), 0, WRONG_LOGS)
            refuses_each(self, Unfit, function, (LOG, None, (0,) * 5), 1, wrong_rows(WRONG_RECORDS))
            refuses_each(self, Unfit, function, (LOG, MORE, None), 2, WRONG_LOOKS)
            for looks in ((0, 0, 0, 0, 4), (4, 0, 0, 0, 0), (10 ** 6, 0, 0, 0, 0), (0, 4, 3, 3, 3)):
                refuses(self, Unfit, function, LOG, MORE, looks)
                refuses(self, Unfit, function, lists(LOG), lists(MORE), list(looks))
            refuses(self, Unfit, function, LOG, (), (0, 0, 0, 2, 0))
            refuses(self, Unfit, function, log_synced(LOG), (), (0, 0, 0, 1, 0))
        refuses_each(self, Unfit, moments, (None, MORE), 0, WRONG_LOGS)
        refuses_each(self, Unfit, moments, (LOG, None), 1, wrong_rows(WRONG_RECORDS))


class TestTold(unittest.TestCase):
    def test_in_each_form(self):
        picture = seen(LOG, MORE, (0, 2, 3, 0, 2))
        self.assertEqual(told(self, told_table, shape=SHAPE, picture=picture), TABLES[1])
        self.assertEqual(told(self, told_table, shape=(4, 1, 2), picture=((1, BLANK),) * 4), ())
        self.assertEqual(told_table((3, 1, 2), ((0, PUT), (1, DROP), (1, BLANK))), (("a", "x"),))

    def test_can_not(self):
        for shape, picture in (((4, 3, 2), ODD), ((4, 3, 2), (TORN,) * 4), ((3, 1, 1), ((0, PUT),) * 3)):
            refuses(self, CanNot, told_table, shape, picture)
            refuses(self, CanNot, told_table, list(shape), lists(picture))

    def test_unfit(self):
        refuses_each(self, Unfit, told_table, (None, ODD), 0, WRONG_SHAPES)
        refuses_each(self, Unfit, told_table, ((5, 3, 2), None), 1, WRONG_PICTURES)

    def test_moments(self):
        self.assertEqual(told(self, moments, log=LOG, records=MORE), TABLES)
        self.assertEqual(told(self, moments, log=LOG, records=()), TABLES[:2])
        self.assertEqual(told(self, moments, log=log_synced(LOG), records=MORE), TABLES[1:])
        self.assertEqual(told(self, moments, log=begun_log((2, 1, 1)), records=()), [()])
        first = moments(LOG, MORE)
        first.append(None)
        self.assertEqual(moments(LOG, MORE), TABLES)


class TestRight(unittest.TestCase):
    def test_in_each_form(self):
        for looks, far in (((0, 0, 0, 0, 0), 0), ((0, 0, 1, 1, 0), 1), ((0, 2, 3, 0, 2), 1), ((3, 0, 0, 2, 3), 3)):
            self.assertIs(told(self, reads_right, log=LOG, records=MORE, looks=looks), True)
            self.assertEqual(told_table(SHAPE, seen(LOG, MORE, looks)), TABLES[far])
        for number, looks, wanted in ((7, (0, 3, 0, 3, 1), True), (0, (0, 0, 0, 4, 0), False), (0, (4,) * 5, True),
                                      (10 ** 6, (0,) * 5, True), (10 ** 6, (10 ** 6,) * 5, True), (2, (2,) * 5, True),
                                      (0, (0, 10 ** 6, 0, 0, 0), True), (0, (0, 0, 0, 10 ** 6, 0), False)):
            self.assertIs(told(self, right_by_numbers, shape=SHAPE, number=number, looks=looks), wanted)

    def test_an_answer_that_is_none_of_the_numbers(self):
        """What it sees has an answer, but ahead of what stood, or beyond what was begun."""
        for number in range(10):
            looks = (0, 2) if number % 2 == 0 else (2, 0)
            self.assertIs(right_by_numbers((2, 1, 2), number, looks), False)
            picture = reading_from((2, 1, 2), number, 2).picture(looks)
            self.assertEqual(answer_by_hand((2, 1, 2), picture), (number + 3) % 4)

    def test_another_record_with_the_same_place(self):
        """The cell still shows the number a turn below the one that is meant: it is not that very one."""
        log = begun_log((4, 2, 2))
        for record in (BLANK, PUT):
            looks = (8, 8, 8, 0)
            own = reading_of(log, (record,) * 8)
            self.assertEqual(answer_by_hand((4, 2, 2), own.picture(looks)), 0)
            self.assertIs(own.is_right(looks), False)
            self.assertIs(reads_right(log, (record,) * 8, looks), False)
            self.assertIs(right_by_numbers((4, 2, 2), 0, looks), False)

    def test_unfit(self):
        refuses_each(self, Unfit, right_by_numbers, (None, 0, (0,) * 5), 0, WRONG_SHAPES)
        refuses_each(self, Unfit, right_by_numbers, (SHAPE, None, (0,) * 5), 1, NO_NATURALS)
        refuses_each(self, Unfit, right_by_numbers, (SHAPE, 0, None), 2, WRONG_LOOKS)


class TestBound(unittest.TestCase):
    def test_in_each_form(self):
        for shape, wanted in (((5, 3, 2), 3), ((5, 4, 2), 1), ((5, 4, 3), 4), ((4, 3, 2), 1), ((2, 1, 2), 1),
                              ((16, 15, 2), 1), ((16, 11, 2), 9), ((16, 10, 2), 10), ((16, 1, 5), 1)):
            self.assertEqual(told(self, most_begun, shape=shape), wanted)
        for shape in all_shapes(9, 4):
            if shape[2] == 1:
                refuses(self, CanNot, most_begun, shape)
                refuses(self, CanNot, most_begun, list(shape))
            else:
                self.assertEqual(most_begun(shape), bound_by_hand(shape))
                self.assertIs(most_begun(shape) == shape[1], is_safe_by_hand(shape))

    def test_wrong_looks(self):
        for shape in all_shapes(16, 5):
            looks = wrong_looks(shape)
            self.assertEqual((len(looks), max(looks)), (shape[0], bound_by_hand(shape) + 1))
            self.assertIs(reading_from(shape, 0, max(looks)).is_right(looks), False)
            self.assertIs(is_wrong_looks(shape, looks), True)
        for shape in (SHAPE, (4, 3, 2), (4, 3, 1), (2, 1, 2)):
            looks = told(self, wrong_looks, shape=shape)
            self.assertIs(told(self, is_wrong_looks, shape=shape, thing=looks), True)

    def test_is_wrong_looks(self):
        for shape, looks, wanted in ((SHAPE, (0, 0, 0, 4, 0), True), (SHAPE, (4,) * 5, False),
                                     (SHAPE, (0, 0, 0, 3, 0), False), (SHAPE, (0, 0, 0, 5, 0), False),
                                     (SHAPE, [0, 0, 0, 4, 0], False), ((4, 3, 2), (0, 2, 0, 0), True),
                                     ((4, 3, 2), (0, 3, 0, 0), False), ((4, 3, 1), (0,) * 4, True),
                                     ((4, 3, 1), (1, 0, 0, 0), False), ((2, 1, 1), (False, False), False),
                                     ((4, 3, 2), (0, 2, False, 0), False)):
            self.assertIs(is_wrong_looks(shape, looks), wanted, looks)
        for wrong in WRONG_LOOKS + ((0, 0, 0, (4,), 0), (0, 0, 0, 4), (0, 0, 0, 4, 0, 0)):
            self.assertIs(is_wrong_looks(SHAPE, wrong), False, wrong)
            self.assertIs(is_wrong_looks(SHAPE, lists(wrong)), False, wrong)

    def test_unfit(self):
        for function, more in ((most_begun, ()), (wrong_looks, ()), (is_wrong_looks, (None,))):
            refuses_each(self, Unfit, function, (None, *more), 0, WRONG_SHAPES)


class TestByHand(unittest.TestCase):
    """The guarantees, with each reader played by hand."""

    def test_all_looks_up_to_the_bound(self):
        """One that begins at whatever number reads right; with looks 1 above the bound, not always."""
        for shape in all_shapes(4, 4) + [(5, 1, 2), (5, 2, 2), (5, 3, 2), (5, 4, 2), (5, 4, 3), (5, 2, 1), (6, 5, 2)]:
            bound = bound_by_hand(shape)
            for number in (0, 1, shape[0] - 1, shape[0] * shape[2] + 3):
                own = reading_from(shape, number, max(0, bound + 1))
                for looks in all_looks(shape[0], bound):
                    self.assertIs(own.is_right(looks), True, (shape, looks))
                    self.assertIs(right_by_numbers(shape, number, looks), True, (shape, looks))
            wrong = 0
            for looks in all_looks(shape[0], bound + 1):
                right = reading_from(shape, 0, max(looks)).is_right(looks)
                self.assertIs(right_by_numbers(shape, 0, looks), right)
                self.assertIs(is_wrong_looks(shape, looks), not right and max(looks) == bound + 1)
                wrong += not right
            self.assertGreater(wrong, 0, shape)

    def test_looks_by_chance(self):
        dice = dice_of(211)
        rights = {True: 0, False: 0}
        for shape in all_shapes(6, 4) + some_wide_shapes(dice, 40):
            for most in (bound_by_hand(shape), shape[1] + 1, 3 * shape[0] * shape[2]):
                number, most = dice.randint(0, 200), max(0, most)
                looks = tuple(dice.choice((0, most, dice.randint(0, most))) for _ in range(shape[0]))
                right = reading_from(shape, number, max(looks)).is_right(looks)
                self.assertIs(right_by_numbers(shape, number, looks), right)
                self.assertTrue(right or most > bound_by_hand(shape))
                rights[right] += 1
        self.assertGreater(min(rights.values()), 60)

    def check(self, dice, log, records):
        """A reader at this log."""
        shape = log[0][0]
        own = reading_of(log, records)
        begun = len(own.times) - 1
        for most in (bound_by_hand(shape), begun):
            most = min(most, begun)
            looks = tuple(dice.choice((0, most, dice.randint(0, most))) for _ in range(shape[0])) if most >= 0 else (
                0,) * shape[0]
            picture = own.picture(looks)
            self.assertEqual(seen(log, records, looks), picture)
            self.assertIs(reads_right(log, records, looks), own.is_right(looks))
            self.assertTrue(own.is_right(looks) or max(looks) > bound_by_hand(shape))
            if answer_by_hand(shape, picture) is None:
                refuses(self, CanNot, told_table, shape, picture)
            elif own.is_right(looks):
                self.assertIn(told_table(shape, picture), moments(log, records)[:max(looks) + 1])
        return own.is_right(looks)

    def test_logs_of_lives(self):
        """Also with cells torn by cuts, and of shapes that are not safe."""
        dice = dice_of(212)
        rights = []
        for shape in all_shapes(6, 3) + some_wide_shapes(dice, 30):
            for _ in range(6):
                life = StoryByHand(shape)
                for _ in range(dice.randint(0, 25)):
                    if not life.go_on(dice):
                        break
                if life.awake:
                    log = life.device(), life.begun % life.turn()
                    records = tuple(some_record(dice) for _ in range(dice.choice((0, 2, 5, 3 * shape[0]))))
                    rights.append(self.check(dice, log, records))
        self.assertGreater(rights.count(True), 50)
        self.assertGreater(rights.count(False), 20)

    def test_moments(self):
        dice = dice_of(213)
        for shape in [own for own in all_shapes(7, 3) if is_safe_by_hand(own)] + [(16, 10, 2), (16, 4, 3)]:
            life = StoryByHand(shape)
            for _ in range(20):
                life.tell_on(dice)
            if not life.awake:
                life.wake()
            records = tuple(some_record(dice) for _ in range(6))
            size = shape[0] - shape[1]
            row = [life.records.get(number, BLANK) for number in range(life.stands - size, life.begun)] + list(records)
            wanted = [table_by_hand(row[at:at + size]) for at in range(len(row) - size + 1)]
            self.assertEqual(moments((life.device(), life.begun % life.turn()), records), wanted)


if __name__ == "__main__":
    unittest.main()
