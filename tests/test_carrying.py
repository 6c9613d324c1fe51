"""Point 15: what is carried, and which deeds have room."""

import unittest

from halfring.carrying import (carried, first_lost, has_room, keeps, leaving, room_of, window_behind, writes_for)
from halfring.errors import Full, Unfit
from halfring.meaning import is_unbroken, last_words, table_of, window_of
from halfring.records import parts_of, with_deeds
from tests.helper import (BLANK, DROP, PUT, WRONG_DEEDS, carried_by_hand, deed_of, dice_of, last_by_hand, lists,
                          parts_by_hand, refuses, refuses_each, row_by_chance, some_deed, some_record, table_by_hand,
                          told, with_deeds_by_hand)
from tests.test_meaning import NO_NATURALS, WRONG_ROWS, is_unbroken_by_hand

B = ("put", "b", "y", 0, 0)
Z = ("put", "a", "z", 0, 0)
ROW = (PUT, B, Z, BLANK)
FULL = ROW[:3] + (("put", "c", "w", 0, 0),)
NEAR = FULL[1:] + (("drop", "q", 0, 0),)
BROKEN = ((BLANK, ("put", "a", "x", 1, 0)), (PUT, ("drop", "b", 1, 0)), (("put", "a", "x", 0, 2), ("drop", "b", 1, 0)))
NO_WINDOWS = WRONG_ROWS + BROKEN
LOT = ("lot", (("drop", "a"), ("put", "c", "w")))
NEVER = ("put", "d", "w")


def window_by_chance(dice, cells=10):
    """A window of one to so many records, unbroken, often with some room."""
    many = dice.randint(1, cells)
    while True:
        window = ((BLANK,) * many + row_by_chance(dice))[-many:]
        # A row that lacks its first records may stand behind blanks.
        if is_unbroken_by_hand(window):
            return window


def has_room_by_hand(window, deed):
    """Whether deed has room."""
    table, many = table_by_hand(window), len(window)
    return len(table) <= many - len(parts_by_hand(deed)) and len(with_deeds_by_hand(table, [deed])) <= many - 1


class TestCarried(unittest.TestCase):
    def test_leaving(self):
        for many, wanted in ((0, ()), (1, ()), (2, ((1, "b"),)), (3, ((1, "b"), (2, "a"))), (4, ((1, "b"), (2, "a"))),
                             (99, ((1, "b"), (2, "a")))):
            self.assertEqual(told(self, leaving, records=ROW, many=many), wanted)
        self.assertEqual(told(self, leaving, records=(), many=3), ())

    def test_carried(self):
        self.assertEqual(told(self, carried, records=ROW, many=0), ())
        self.assertEqual(told(self, carried, records=ROW, many=1), ())
        self.assertEqual(told(self, carried, records=ROW, many=2), (B, Z))
        self.assertEqual(told(self, carried, records=(), many=0), ())
        self.assertEqual(told(self, carried, records=(BLANK,) * 3, many=3), ())
        self.assertEqual(carried((B, BLANK, Z, BLANK), 1), (B,))

    def test_parts_of_lots_are_carried_as_puts_by_themselves(self):
        pair = parts_of(("lot", (("put", "a", "x"), ("put", "b", "y"))))
        self.assertEqual(carried(pair + (BLANK,) * 2, 2), (PUT, B))
        self.assertEqual(carried(pair[1:] + (BLANK,), 1), (B,))

    def test_full(self):
        for row, many in ((ROW, 3), (ROW, 4), (ROW, 99), (FULL, 2), ((), 1), ((PUT,), 1), ((BLANK,), 2),
                          ((PUT, B), 1), (ROW, 10 ** 6)):
            refuses(self, Full, carried, row, many)
            refuses(self, Full, carried, lists(row), many)
        self.assertEqual(carried((PUT, B), 0), ())

    def test_room_of(self):
        for row, wanted in (((), 0), (ROW, 2), (FULL, 1), (NEAR, 1), ((PUT,), 0), ((BLANK,), 1), ((PUT, DROP), 2),
                            ((("put", "a", "x", 0, 1),), 1)):
            self.assertEqual(told(self, room_of, records=row), wanted)

    def test_by_hand(self):
        dice = dice_of(151)
        for _ in range(500):
            window = window_by_chance(dice)
            self.assertEqual(room_of(window), len(window) - len(table_by_hand(window)))
            for many in range(len(window) + 2):
                self.assertEqual(leaving(window, many), tuple(own for own in last_by_hand(window) if own[0] < many))
                if many > room_of(window):
                    refuses(self, Full, carried, window, many)
                else:
                    self.assertEqual(carried(window, many), carried_by_hand(window, many))

    def test_what_is_carried(self):
        dice = dice_of(152)
        for _ in range(300):
            window = window_by_chance(dice)
            table = table_of(window)
            for many in range(room_of(window) + 1):
                writes = carried(window, many)
                self.assertLessEqual(len(writes), len(table))
                self.assertEqual(len({own[1] for own in writes}), len(writes))
                self.assertIsNone(first_lost(window, writes))
                self.assertEqual(leaving(window_behind(window, writes), many), ())
                self.assertIs(is_unbroken(window_behind(window, writes)), True)
            # Ahead of more than that carrying would not end.
            self.assertEqual(carried_by_hand(window, room_of(window) + 1), None if table != () else ())

    def test_refusals(self):
        for function in (leaving, carried):
            refuses_each(self, Unfit, function, (None, 99), 0, NO_WINDOWS)
            refuses_each(self, Unfit, function, (FULL, None), 1, NO_NATURALS)
        refuses_each(self, Unfit, room_of, (None,), 0, NO_WINDOWS)


class TestRoom(unittest.TestCase):
    def test_has_room(self):
        for row, deed, wanted in ((ROW, ("put", "c", "w"), True), (ROW, ("put", "a", "w"), True), (ROW, LOT, True),
                                  (FULL, NEVER, False), (FULL, ("drop", "q"), True), (FULL, ("put", "a", "w"), True),
                                  (FULL, ("drop", "a"), True), (FULL, LOT, False), ((), ("drop", "a"), False),
                                  ((PUT,), ("drop", "a"), False), ((BLANK,), ("drop", "a"), True),
                                  ((BLANK,), ("put", "a", "x"), False), ((PUT, BLANK), ("put", "a", "z"), True),
                                  ((PUT, BLANK), ("put", "b", "z"), False), ((PUT, BLANK), LOT, False),
                                  ((BLANK,) * 2, LOT, True), ((BLANK,) * 2, ("lot", (NEVER, ("put", "a", "x"))), False),
                                  ((BLANK,) * 2, ("lot", (NEVER, ("drop", "d"))), True)):
            self.assertIs(told(self, has_room, records=row, deed=deed), wanted, (row, deed))

    def test_writes_for(self):
        self.assertEqual(told(self, writes_for, records=ROW, deed=LOT),
                         (B, Z, ("drop", "a", 0, 1), ("put", "c", "w", 1, 0)))
        self.assertEqual(told(self, writes_for, records=FULL, deed=("drop", "q")), (("drop", "q", 0, 0),))
        self.assertEqual(told(self, writes_for, records=NEAR, deed=("put", "a", "v")),
                         (B, Z, FULL[3], ("put", "a", "v", 0, 0)))
        for row, deed in ((FULL, NEVER), (FULL, LOT), ((), ("drop", "a")), ((PUT,), ("drop", "a")),
                          ((BLANK,), ("put", "a", "x"))):
            refuses(self, Full, writes_for, row, deed)
            refuses(self, Full, writes_for, lists(row), lists(deed))

    def test_by_hand(self):
        dice = dice_of(153)
        found = []
        for _ in range(1000):
            window, deed = window_by_chance(dice), deed_of(dice, "abc0")
            room = has_room_by_hand(window, deed)
            found.append(room)
            self.assertIs(has_room(window, deed), room)
            if room:
                parts = parts_by_hand(deed)
                self.assertEqual(writes_for(window, deed), carried_by_hand(window, len(parts)) + parts)
            else:
                refuses(self, Full, writes_for, window, deed)
        self.assertTrue(200 < sum(found) < 900)

    def test_a_deed_is_done_whole_or_not_at_all(self):
        dice = dice_of(154)
        for _ in range(600):
            window, deed = window_by_chance(dice), some_deed(dice)
            if not has_room(window, deed):
                continue
            writes, table = writes_for(window, deed), table_of(window)
            for many in range(len(writes)):
                self.assertEqual(table_by_hand((window + writes[:many])[many:]), table)
            behind = (window + writes)[len(writes):]
            self.assertEqual(table_by_hand(behind), with_deeds(table, (deed,)))
            self.assertIs(is_unbroken(behind), True)
            self.assertLessEqual(len(writes), len(table) + len(parts_by_hand(deed)))
            self.assertIs(keeps(window, deed, writes), True)
            self.assertLess(len(last_words(behind)), len(window))

    def test_refusals(self):
        for function in (has_room, writes_for):
            refuses_each(self, Unfit, function, (None, NEVER), 0, NO_WINDOWS)
            refuses_each(self, Unfit, function, (FULL, None), 1, WRONG_DEEDS)


class TestBehind(unittest.TestCase):
    def test_window_behind(self):
        for writes, wanted in (((), ROW), ((DROP,), ROW[1:] + (DROP,)), (NEAR, NEAR), (NEAR + (PUT,), NEAR[1:] + (PUT,))):
            self.assertEqual(told(self, window_behind, records=ROW, writes=writes), wanted)
        self.assertEqual(told(self, window_behind, records=(), writes=ROW), ())

    def test_first_lost(self):
        for row, writes, wanted in ((ROW, (BLANK, BLANK), 1), (ROW, (BLANK,), None), (ROW, (), None), (ROW, (B, Z), None),
                                    (ROW, (Z, BLANK), 1), (FULL, (NEVER + (0, 0),), 0), ((), (PUT, DROP), None),
                                    ((PUT, BLANK), (DROP, PUT), 0), (NEAR, (BLANK,), 0), (ROW, (BLANK,) * 9, 1)):
            self.assertEqual(told(self, first_lost, records=row, writes=writes), wanted, (row, writes))

    def test_keeps(self):
        drop_q = ("drop", "q", 0, 0)
        for row, deed, writes, wanted in (
                (ROW, ("drop", "q"), (), False), (ROW, ("drop", "q"), (drop_q,), True), (ROW, ("drop", "q"), (BLANK,), True),
                (NEAR, ("put", "b", "v"), (("put", "b", "v", 0, 0),), True),
                (NEAR, ("put", "a", "v"), (("put", "a", "v", 0, 0),), False),
                (ROW, ("put", "b", "v"), (("put", "b", "v", 0, 0), BLANK), False),
                (ROW, ("put", "b", "y"), (B,), True), (ROW, LOT, (B, Z) + parts_by_hand(LOT), True),
                (ROW, LOT, (Z, B) + parts_by_hand(LOT), True), (ROW, LOT, parts_by_hand(LOT), False),
                (ROW, ("drop", "b"), (("drop", "b", 0, 0), Z), False), ((), ("drop", "a"), (PUT,), True),
                ((), ("put", "a", "x"), (PUT,), False)):
            self.assertIs(told(self, keeps, records=row, deed=deed, writes=writes), wanted, (row, deed, writes))

    def test_by_hand(self):
        dice = dice_of(155)
        found = []
        for _ in range(800):
            window, deed = window_by_chance(dice, 6), some_deed(dice)
            writes = tuple(some_record(dice) for _ in range(dice.randint(0, 3)))
            if dice.random() < 0.5 and has_room(window, deed):
                writes = writes_for(window, deed)[dice.randint(0, 1):]
            tables = [table_by_hand((window + writes)[at:at + len(window)]) for at in range(len(writes) + 1)]
            lost = [at for at in range(len(writes)) if tables[at + 1] != tables[0]]
            self.assertEqual(first_lost(window, writes), lost[0] if lost != [] else None)
            self.assertEqual(window_behind(window, writes), window_of(window + writes, len(window)))
            wanted = writes != () and tables[:-1] == tables[:1] * len(writes) and tables[-1] == with_deeds_by_hand(
                tables[0], [deed])
            self.assertIs(keeps(window, deed, writes), wanted)
            found.append(wanted)
        self.assertTrue(100 < sum(found) < 700)

    def test_refusals(self):
        for function in (window_behind, first_lost):
            refuses_each(self, Unfit, function, (None, ROW), 0, NO_WINDOWS)
            refuses_each(self, Unfit, function, (ROW, None), 1, WRONG_ROWS)
        refuses_each(self, Unfit, keeps, (None, NEVER, ()), 0, NO_WINDOWS)
        refuses_each(self, Unfit, keeps, (ROW, None, ()), 1, WRONG_DEEDS)
        refuses_each(self, Unfit, keeps, (ROW, NEVER, None), 2, WRONG_ROWS)
        # writes may be broken.
        self.assertEqual(window_behind(ROW, BROKEN[1]), ROW[2:] + BROKEN[1])


if __name__ == "__main__":
    unittest.main()
