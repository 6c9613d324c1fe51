"""Point 12: logs, and lives, of which point 3 tells."""

import unittest

from halfring.devices import is_device
from halfring.errors import Asleep, Unfit
from halfring.log import (begun_log, device_behind, is_life, is_log, log_behind, log_synced, logged, records_of, stood)
from halfring.places import answer
from tests.helper import (BLANK, DROP, JUNK, PUT, TORN, WRONG_RECORDS, WRONG_SHAPES, LifeByHand, all_shapes, dice_of,
                          lists, refuses, refuses_each, some_life, some_record, some_shape, told)
from tests.test_devices import WRONG_DEVICES

SMALL = (3, 1, 2)
SHAPE = (5, 3, 2)
VOID = ((1, BLANK),) * 5
# Records 0 to 6 stand, 7 and 8 are in flight.
STANDS = ((1, PUT), (1, DROP), (0, BLANK), (0, BLANK), (0, PUT))
FLIGHT = ((2, (1, PUT)), (3, (1, DROP)))
LOG = ((SHAPE, STANDS, FLIGHT), 9)
HALF = ((SHAPE, STANDS[:2] + (TORN, (0, BLANK), TORN), FLIGHT), 9)
QUIET = ((SHAPE, STANDS, ()), 7)
WRITE = ("write", PUT)
BRIEF = (WRITE, WRITE, ("cut", ("torn", "new")))

WRONG_LOGS = JUNK + tuple((device, 0) for device in WRONG_DEVICES) + (
    (LOG[0],), LOG + (0,), (LOG[0], 8), (LOG[0], 10), (LOG[0], 19), (LOG[0], -1), (LOG[0], None), (LOG[0], "9"),
    (QUIET[0], 8), (QUIET[0], 6), (QUIET[0], 17), ((SHAPE, VOID, ()), True), ((SHAPE, VOID, ()), False),
    ((SHAPE, VOID, ()), 10), ((SHAPE, VOID, ()), 5), ((SHAPE, STANDS, FLIGHT[::-1]), 9),
    ((SHAPE, STANDS, FLIGHT[1:]), 9),
    ((SHAPE, STANDS, FLIGHT[:1] * 2), 9), ((SHAPE, STANDS, ((2, (0, PUT)), FLIGHT[1])), 9),
    ((SHAPE, STANDS[:1] + (TORN,) + STANDS[2:], FLIGHT), 9), ((SHAPE, (TORN,) + STANDS[1:], FLIGHT), 9),
    ((SHAPE, STANDS[:1] + ((0, PUT),) + STANDS[2:], FLIGHT), 9),
    ((SHAPE, STANDS[:4] + ((1, PUT),), FLIGHT), 9), ((SHAPE, STANDS[:2] + ((1, PUT),) + STANDS[3:], FLIGHT), 9),
    ((SHAPE, STANDS[:2] + ((1, PUT),) + STANDS[3:], ()), 7), (7, QUIET[0]))

WRONG_LIVES = tuple(own for own in JUNK if own not in ((), [])) + (
    WRITE, (None,), (WRITE, None), (("write",),), (("write", None),), (("write", PUT, 0),), (("sync", 0),), ("sync",),
    (("wake",),), (("mend", 0, ()),), (("cut",),), (("cut", None),), (("cut", ("new",)),), (("cut", "new"),),
    (WRITE, ("cut", ())), (WRITE, ("cut", ("new", "new"))), (WRITE, ("cut", ("lost",))), (WRITE, ("cut", (None,))),
    (WRITE, ("cut", "n")), (WRITE, WRITE, ("cut", "no")), BRIEF + (WRITE,), BRIEF + (("sync",),),
    BRIEF + (("cut", ()),),
    BRIEF + (("wake",), ("wake",)), BRIEF + (("wake",), ("mend", 0, ())), BRIEF + (("mend", 1, ()),),
    BRIEF + (("mend", 0, ("new",)),), BRIEF + (("mend", True, ("new",)),), BRIEF + (("mend", -1, ()),),
    BRIEF + (("mend", 0),), BRIEF + (("mend", 0, (), ()),), BRIEF + (("mend", None, ()),), BRIEF + (("mend", 0, None),),
    BRIEF + (("mend", 2, ("new", "new")),), BRIEF + (("mend", 2, ("new",)),), BRIEF + (("wake", 0, ()),),
    BRIEF + (("cut", 0, ()),), BRIEF + (("mend", 0, ("lost",)),), (("cut", ("new",)), ("wake",)),
    (("wake",), WRITE, WRITE),
    BRIEF + (WRITE, ("wake",)), (("wrote", PUT),), (("sync", PUT),), (("cut", PUT),), (("write", ()),), (None, WRITE),
    BRIEF + (("mend", 1, ()), ("wake",)), (("mend", PUT),), (("wake", PUT),),
    BRIEF + (("mend", 0, ()), WRITE), BRIEF + (("mend", 0, ()), ("sync",)),
    BRIEF + (("wake", 0),), BRIEF + (("blank",),), (("deed", ("put", "a", "x")),), (("put", "a", "x", 0, 0),))


class TestLogs(unittest.TestCase):
    def test_is_log(self):
        for log in (LOG, HALF, QUIET, begun_log(SHAPE), begun_log((3, 1, 1)), ((SHAPE, (TORN,) * 3 + VOID[3:], ()), 0)):
            self.assertIs(told(self, is_log, thing=log), True)
            for wrong in (list(log), (list(log[0]), log[1]), (lists(log[0]), log[1])):
                self.assertIs(is_log(wrong), False)
        for log in WRONG_LOGS:
            self.assertIs(is_log(log), False, log)

    def test_is_log_with_one_mark(self):
        picture = ((0, PUT), TORN, (0, DROP))
        for place in range(3):
            self.assertIs(is_log((((3, 1, 1), picture, ()), place)), place == 1)
        self.assertIs(is_log((((3, 1, 1), picture, ((1, (0, PUT)),)), 2)), True)
        self.assertIs(is_log((((3, 1, 1), picture, ((2, (0, PUT)),)), 0)), False)

    def test_begun_log(self):
        for shape in all_shapes(5, 3):
            self.assertEqual(begun_log(shape), ((shape, ((shape[2] - 1, BLANK),) * shape[0], ()), 0))
        told(self, begun_log, shape=SHAPE)
        refuses_each(self, Unfit, begun_log, (None,), 0, WRONG_SHAPES)

    def test_logged(self):
        self.assertEqual(told(self, logged, log=QUIET, record=PUT), ((SHAPE, STANDS, FLIGHT[:1]), 8))
        self.assertEqual(told(self, logged, log=LOG, record=BLANK), ((SHAPE, STANDS, FLIGHT + ((4, (1, BLANK)),)), 0))
        full = logged(LOG, BLANK)
        synced = STANDS[:2] + ((1, PUT), (1, DROP), (1, BLANK))
        self.assertEqual(told(self, logged, log=full, record=DROP), ((SHAPE, synced, ((0, (0, DROP)),)), 1))

    def test_log_synced(self):
        self.assertEqual(told(self, log_synced, log=LOG),
                         ((SHAPE, STANDS[:2] + ((1, PUT), (1, DROP), (0, PUT)), ()), 9))
        self.assertEqual(told(self, log_synced, log=QUIET), QUIET)
        self.assertEqual(told(self, log_synced, log=HALF),
                         ((SHAPE, STANDS[:2] + ((1, PUT), (1, DROP), TORN), ()), 9))

    def test_records_of(self):
        self.assertEqual(told(self, records_of, log=QUIET), (PUT, DROP))
        self.assertEqual(told(self, records_of, log=LOG), (PUT, DROP))
        self.assertEqual(records_of(logged(QUIET, BLANK)), (DROP, BLANK))
        self.assertEqual(records_of(begun_log((7, 2, 2))), (BLANK,) * 5)
        wide = logged(logged(begun_log((7, 2, 2)), PUT), DROP)
        self.assertEqual(records_of(wide), (BLANK, BLANK, BLANK, PUT, DROP))

    def test_stood(self):
        self.assertEqual(told(self, stood, log=LOG), 7)
        self.assertEqual(told(self, stood, log=QUIET), 7)
        self.assertEqual(stood(logged(LOG, BLANK)), 7)
        self.assertEqual(stood(logged(logged(LOG, BLANK), DROP)), 0)
        self.assertEqual(stood(begun_log(SHAPE)), 0)

    def test_refusals(self):
        for function, more in ((logged, (PUT,)), (log_synced, ()), (records_of, ()), (stood, ())):
            refuses_each(self, Unfit, function, (None, *more), 0, WRONG_LOGS)
        refuses_each(self, Unfit, logged, (LOG, None), 1, WRONG_RECORDS)


class TestLives(unittest.TestCase):
    def test_is_life(self):
        for life in ((), (WRITE,), (WRITE, ("sync",)), (("sync",), ("sync",)), (("cut", ()),), BRIEF, (WRITE,) * 100,
                     BRIEF + (("wake",),), BRIEF + (("mend", 0, ()),) * 5, BRIEF + (("mend", 0, ()), ("wake",), WRITE),
                     (("cut", ()), ("wake",), ("cut", ()), ("mend", 0, ())),
                     BRIEF + (("mend", 1, ("torn",)), ("mend", 0, ()), ("wake",), ("sync",), ("cut", ()))):
            self.assertIs(told(self, is_life, shape=SHAPE, thing=life), True, life)
            self.assertIs(is_life(SHAPE, list(life)), False)
        for life in WRONG_LIVES:
            self.assertIs(is_life(SHAPE, life), False, life)
        for life in (([*WRITE],), (("write", list(PUT)),), (WRITE, ("cut", ["new"])), BRIEF + (("mend", 0, []),)):
            self.assertIs(is_life(SHAPE, life), False, life)

    def test_every_wrong_record(self):
        for record in WRONG_RECORDS:
            self.assertIs(is_life(SHAPE, (("write", record),)), False, record)
            refuses(self, Unfit, device_behind, SHAPE, lists((("write", record),)))

    def test_no_wake_without_an_answer(self):
        unsafe = (4, 3, 2)
        row = (WRITE,) * 5 + (("sync",),) + (WRITE,) * 3
        left = device_behind(unsafe, row + (("cut", ("old", "new", "old")),))
        whole = [("cut", fates) for fates in (("old", "new", "old"), ("new", "new", "new"))]
        self.assertEqual(left[1], ((1, PUT), (0, PUT), (1, PUT), (0, PUT)))
        for event in (("wake",), ("mend", 0, ())):
            self.assertIs(is_life(unsafe, row + (whole[0], event)), False)
            self.assertIs(is_life(unsafe, row + (whole[1], event)), True)
        one = (3, 1, 1)
        self.assertIs(is_life(one, (("cut", ()), ("wake",))), False)
        self.assertIs(is_life(one, (WRITE, ("cut", ("torn",)), ("wake",), WRITE)), True)

    def test_device_behind(self):
        self.assertEqual(told(self, device_behind, shape=SHAPE, life=()), (SHAPE, VOID, ()))
        self.assertEqual(told(self, device_behind, shape=SHAPE, life=(WRITE, WRITE)),
                         (SHAPE, VOID, ((0, (0, PUT)), (1, (0, PUT)))))
        self.assertEqual(told(self, device_behind, shape=SHAPE, life=BRIEF), (SHAPE, (TORN, (0, PUT)) + VOID[2:], ()))
        four = (WRITE,) * 3 + (("write", DROP),)
        self.assertEqual(device_behind(SHAPE, four), (SHAPE, ((0, PUT),) * 3 + VOID[3:], ((3, (0, DROP)),)))
        self.assertEqual(device_behind(SHAPE, four + (("sync",),)), (SHAPE, ((0, PUT),) * 3 + ((0, DROP), VOID[0]), ()))

    def test_mending(self):
        row = BRIEF
        self.assertEqual(answer(SHAPE, device_behind(SHAPE, row)[1]), 0)
        for fate, left in (("new", (1, BLANK)), ("old", (0, PUT)), ("torn", TORN)):
            life = row + (("mend", 1, (fate,)),)
            self.assertEqual(told(self, device_behind, shape=SHAPE, life=life), (SHAPE, (TORN, left) + VOID[2:], ()))
            self.assertEqual(log_behind(SHAPE, life + (("wake",),))[1], 0)
        self.assertEqual(device_behind(SHAPE, row + (("wake",),)), (SHAPE, (TORN,) + VOID[1:], ()))

    def test_mending_leaves_what_is_torn_or_shows_the_number_below(self):
        shape = (4, 3, 3)
        over = (("write", PUT),) * 4 + (("sync",),) + (("write", PUT),) * 3 + (("cut", ("old", "torn", "new")),)
        self.assertEqual(device_behind(shape, over)[1], ((0, PUT), TORN, (1, PUT), (0, PUT)))
        self.assertEqual(answer(shape, device_behind(shape, over)[1]), 7)
        woken = told(self, log_behind, shape=shape, life=over + (("wake",),))
        self.assertEqual(woken, ((shape, ((1, BLANK), TORN, (1, PUT), (0, PUT)), ()), 7))

    def test_log_behind(self):
        self.assertEqual(told(self, log_behind, shape=SHAPE, life=()), begun_log(SHAPE))
        self.assertEqual(told(self, log_behind, shape=SHAPE, life=(WRITE,)), logged(begun_log(SHAPE), PUT))
        self.assertEqual(told(self, log_behind, shape=SHAPE, life=BRIEF + (("wake",),)),
                         ((SHAPE, (TORN,) + VOID[1:], ()), 0))
        for life in (BRIEF, BRIEF + (("mend", 0, ()),), (("cut", ()),), BRIEF + (("wake",), ("cut", ()))):
            refuses(self, Asleep, log_behind, SHAPE, life)
            refuses(self, Asleep, log_behind, SHAPE, lists(life))

    def test_refusals(self):
        for function in (device_behind, log_behind):
            refuses_each(self, Unfit, function, (None, ()), 0, WRONG_SHAPES)
            refuses_each(self, Unfit, function, (SHAPE, None), 1, WRONG_LIVES)
        for thing in ((), None, BRIEF):
            refuses_each(self, Unfit, is_life, (None, thing), 0, WRONG_SHAPES)


class TestGuarantees(unittest.TestCase):
    def test_lives_by_hand(self):
        dice = dice_of(41)
        for _ in range(300):
            shape = some_shape(dice, 8, 4)
            life = LifeByHand(shape)
            for _ in range(dice.randint(0, 40)):
                if not life.go_on(dice):
                    break
            events = tuple(life.events)
            self.assertIs(is_life(shape, events), True)
            self.assertEqual(device_behind(shape, events), life.device())
            self.assertIs(is_device(device_behind(shape, events)), True)
            if life.awake:
                self.check_log(life, log_behind(shape, events))
            else:
                refuses(self, Asleep, log_behind, shape, events)

    def check_log(self, life, log):
        cells, flight, marks = life.shape
        self.assertIs(is_log(log), True)
        self.assertEqual(log, (life.device(), life.begun % life.turn()))
        self.assertEqual(stood(log), life.stands % life.turn())
        self.assertLessEqual(len(log[0][2]), flight)
        if marks > 1 and marks * cells > 3 * flight:
            numbers = range(life.begun - cells + flight, life.begun)
            self.assertEqual(records_of(log), tuple(life.records.get(number, BLANK) for number in numbers))

    def test_logs_go_on_one_by_one(self):
        dice = dice_of(42)
        for _ in range(100):
            life = some_life(dice, some_shape(dice))
            if life.awake:
                log = log_behind(life.shape, tuple(life.events))
                record = some_record(dice)
                self.assertEqual(logged(log, record), log_behind(life.shape, tuple(life.events) + (("write", record),)))
                self.assertEqual(log_synced(log), log_behind(life.shape, tuple(life.events) + (("sync",),)))
                self.assertEqual(records_of(log_synced(log)), records_of(log))
                self.assertEqual(records_of(logged(log, record)), (records_of(log) + (record,))[1:])

    def test_between_two_forced_syncs(self):
        for shape in all_shapes(6, 2):
            log, many = begun_log(shape), []
            for _ in range(4 * shape[1] + 3):
                log = logged(log, PUT)
                many.append(len(log[0][2]))
            self.assertEqual(many, [at % shape[1] + 1 for at in range(len(many))])

    def test_places_of_fits_of_lives(self):
        dice = dice_of(43)
        for _ in range(60):
            life = some_life(dice, some_shape(dice))
            while life.awake:
                self.assertTrue(life.go_on(dice))
            refuses(self, Asleep, log_behind, life.shape, tuple(life.events))
            if life.answer() is not None:
                life.wake()
                log = log_behind(life.shape, tuple(life.events))
                self.assertEqual(log, (life.device(), life.begun % life.turn()))


if __name__ == "__main__":
    unittest.main()
