"""Point 14: what rows of records mean."""

import unittest

from halfring.errors import NoKey, Unfit
from halfring.meaning import (gist, is_unbroken, last_words, spare, table_of, tables_behind, window_of, word_on)
from halfring.records import is_records, is_table
from tests.helper import (BLANK, DROP, PUT, WRONG_KEYS, WRONG_RECORDS, closed_by_hand, dice_of, last_by_hand, lists,
                          parts_by_hand, refuses, refuses_each, row_by_chance, some_deed, some_record, table_by_hand,
                          told)
from tests.test_records import wrong_rows

PAIR = parts_by_hand(("lot", (("put", "a", "x"), ("put", "b", "y"))))
ROW = PAIR + (("put", "a", "z", 0, 0), ("drop", "b", 0, 1))
BROKEN = (BLANK, ("put", "a", "x", 1, 0))
WRONG_ROWS = wrong_rows(WRONG_RECORDS) + (PUT, (PUT, None), (BLANK, PUT, ("torn",)))
NO_NATURALS = (None, True, False, "0", 1.0, (0,), {}, -1, -10 ** 6)


def any_row(dice, most=8):
    """A row of records by chance, unbroken or not."""
    if dice.random() < 0.5:
        return row_by_chance(dice, most)
    return tuple(some_record(dice) for _ in range(dice.randint(0, most)))


def is_unbroken_by_hand(row):
    """Whether row is unbroken."""
    for at in range(1, len(row)):
        if row[at] != BLANK and row[at][-2] > 0:
            if row[at - 1] == BLANK or row[at - 1][-2:] != (row[at][-2] - 1, row[at][-1] + 1):
                return False
    return True


def tail_by_hand(row):
    """How many records at the end of row are a lot begun and not closed."""
    if row == () or row[-1] == BLANK or row[-1][-1] == 0:
        return 0
    many = 1
    while many < len(row) and row[-many - 1] != BLANK and row[-many - 1][-2:] == (
            row[-many][-2] - 1, row[-many][-1] + 1):
        many += 1
    return many


class TestTables(unittest.TestCase):
    def test_table_of(self):
        for row, wanted in (((), ()), ((BLANK,), ()), (ROW, (("a", "z"), ("b", "y"))), (ROW[:1], ()),
                            (ROW[:2], (("a", "x"), ("b", "y"))), (ROW[1:2], (("b", "y"),)), (ROW[3:], ()),
                            (ROW + (("put", "c", "w", 1, 0),), (("a", "z"), ("c", "w"))),
                            (ROW + (BLANK, ("put", "c", "w", 1, 0)), (("a", "z"), ("b", "y"))),
                            ((PUT, DROP), ()), ((DROP, PUT), (("a", "x"),)), (BROKEN, ()),
                            (BROKEN[1:], (("a", "x"),))):
            self.assertEqual(told(self, table_of, records=row), wanted, row)

    def test_a_lot_cut_off(self):
        trio = parts_by_hand(("lot", (("put", "a", "x"), ("drop", "a"), ("put", "b", "y"))))
        stands = (("put", "a", "w", 0, 0),)
        for many in range(3):
            self.assertEqual(table_of(stands + trio[:many]), (("a", "w"),))
            self.assertEqual(table_of(stands + trio[:many] + trio), (("b", "y"),))
        for many in (1, 2):
            self.assertEqual(table_of(stands + trio[:many] + stands + trio[many:]), (("a", "w"),))
        self.assertEqual(table_of(stands + trio), (("b", "y"),))
        self.assertEqual([table_of(trio[many:]) for many in range(4)], [(("b", "y"),)] * 3 + [()])

    def test_last_words(self):
        for row, wanted in (((), ()), (ROW, ((1, "b"), (2, "a"))), (ROW[:2], ((0, "a"), (1, "b"))),
                            ((PUT, DROP), ()), ((PUT, PUT), ((1, "a"),)), (ROW[2:], ((0, "a"),)),
                            (ROW + (BLANK,), ((1, "b"), (2, "a"))), ((PUT, DROP, PUT), ((2, "a"),)),
                            ((("put", "b", "x", 0, 0), PUT), ((0, "b"), (1, "a")))):
            self.assertEqual(told(self, last_words, records=row), wanted, row)

    def test_word_on(self):
        self.assertEqual(told(self, word_on, records=ROW, key="a"), "z")
        self.assertEqual(told(self, word_on, records=ROW, key="b"), "y")
        self.assertEqual(word_on((("put", "@a", "0", 0, 0),), "@a"), "0")
        for row, key in ((ROW, "c"), (ROW, "@a"), ((), "a"), (ROW[:1], "a"), ((PUT, DROP), "a"), (ROW[2:], "b")):
            refuses(self, NoKey, word_on, row, key, key=key)
            refuses(self, NoKey, word_on, lists(row), key, key=key)

    def test_by_hand(self):
        dice = dice_of(141)
        for _ in range(600):
            row = any_row(dice)
            table, last = table_of(row), last_words(row)
            self.assertEqual(table, table_by_hand(row))
            self.assertEqual(last, last_by_hand(row))
            self.assertIs(is_table(table), True)
            self.assertEqual(table, tuple(sorted((key, row[number][2]) for number, key in last)))
            self.assertLessEqual(len(table), len(row))
            for key in ("a", "b", "@c", "0"):
                if key in dict(table):
                    self.assertEqual(word_on(row, key), dict(table)[key])
                else:
                    refuses(self, NoKey, word_on, row, key, key=key)

    def test_refusals(self):
        for function in (table_of, last_words):
            refuses_each(self, Unfit, function, (None,), 0, WRONG_ROWS)
        refuses_each(self, Unfit, word_on, (None, "q"), 0, WRONG_ROWS)
        refuses_each(self, Unfit, word_on, (ROW, None), 1, WRONG_KEYS)


class TestWindows(unittest.TestCase):
    def test_window_of(self):
        for many, wanted in ((0, ()), (1, ROW[3:]), (2, ROW[2:]), (4, ROW), (5, (BLANK,) + ROW),
                             (7, (BLANK,) * 3 + ROW)):
            self.assertEqual(told(self, window_of, records=ROW, many=many), wanted)
        self.assertEqual(told(self, window_of, records=(), many=3), (BLANK,) * 3)
        self.assertEqual(window_of((), 0), ())
        self.assertEqual(window_of(ROW, 10 ** 6), (BLANK,) * (10 ** 6 - 4) + ROW)

    def test_spare(self):
        for row, wanted in (((), 0), (ROW, 1), (ROW[1:], 0), (ROW[:1], 1), (ROW[2:], 0), (ROW[3:], 1),
                            ((BLANK,) * 5, 5), ((BLANK, PUT, BLANK), 1), ((PUT, DROP), 2), ((PUT, BLANK, PUT), 2)):
            self.assertEqual(told(self, spare, records=row), wanted, row)

    def test_spare_is_the_most(self):
        dice = dice_of(142)
        for _ in range(300):
            row = row_by_chance(dice)
            many = spare(row)
            for first in range(len(row) + 1):
                self.assertIs(len(last_words(row[first:])) == len(last_words(row)), first <= many)

    def test_tables_behind(self):
        writes = (("put", "c", "w", 1, 0), BLANK)
        self.assertEqual(told(self, tables_behind, records=ROW, writes=writes),
                         [(("a", "z"), ("b", "y")), (("a", "z"), ("c", "w")), (("a", "z"), ("c", "w"))])
        self.assertEqual(told(self, tables_behind, records=ROW, writes=()), [(("a", "z"), ("b", "y"))])
        self.assertEqual(told(self, tables_behind, records=(), writes=(PUT, PUT)), [(), (), ()])
        self.assertEqual(tables_behind((PUT,), (BLANK,)), [(("a", "x"),), ()])
        first = tables_behind(ROW, writes)
        first.append("mine")
        self.assertEqual(len(tables_behind(ROW, writes)), 3)

    def test_tables_behind_by_hand(self):
        dice = dice_of(143)
        for _ in range(200):
            row, writes = any_row(dice), any_row(dice)
            both = row + writes
            wanted = [table_by_hand(both[:len(row) + at][at:]) for at in range(len(writes) + 1)]
            self.assertEqual(tables_behind(row, writes), wanted)

    def test_refusals(self):
        refuses_each(self, Unfit, window_of, (None, 0), 0, WRONG_ROWS)
        refuses_each(self, Unfit, window_of, (ROW, None), 1, NO_NATURALS)
        refuses_each(self, Unfit, spare, (None,), 0, WRONG_ROWS)
        refuses_each(self, Unfit, tables_behind, (None, ROW), 0, WRONG_ROWS)
        refuses_each(self, Unfit, tables_behind, (ROW, None), 1, WRONG_ROWS)


class TestUnbroken(unittest.TestCase):
    def test_is_unbroken(self):
        for row, wanted in (((), True), (ROW, True), (BROKEN, False), (BROKEN[1:], True), (ROW[1:], True),
                            ((BLANK,) * 3, True), ((PUT, ("drop", "b", 1, 0)), False), ((PAIR[0], BLANK), True),
                            ((PAIR[0], BLANK, PAIR[1]), False), ((PAIR[0], PAIR[0], PAIR[1]), True),
                            ((PAIR[0], ("put", "b", "y", 1, 1)), False), ((PAIR[0], ("put", "b", "y", 2, 0)), False),
                            ((("put", "a", "x", 5, 1), ("drop", "b", 6, 0), PUT), True),
                            ((("drop", "a", 0, 7), ("drop", "a", 1, 6), ("drop", "a", 2, 5)), True)):
            self.assertIs(told(self, is_unbroken, records=row), wanted, row)

    def test_by_hand(self):
        dice = dice_of(144)
        found = []
        for _ in range(400):
            row = any_row(dice, 5)
            found.append(is_unbroken(row))
            self.assertIs(found[-1], is_unbroken_by_hand(row))
        self.assertGreater(found.count(False), 50)

    def test_rows_of_deeds_cut_off(self):
        dice = dice_of(145)
        for _ in range(400):
            row = row_by_chance(dice)
            self.assertIs(is_unbroken(row), True, row)
            for first in range(len(row) + 1):
                self.assertIs(is_unbroken(row[first:]), True)

    def test_a_word_goes_with_its_record(self):
        dice = dice_of(146)
        for _ in range(400):
            row = row_by_chance(dice)
            last = last_words(row)
            for first in range(len(row) + 1):
                wanted = tuple((number - first, key) for number, key in last if number >= first)
                self.assertEqual(last_words(row[first:]), wanted)

    def test_of_broken_rows_an_elder_word_may_come_back(self):
        row = (("put", "a", "x", 0, 0), BLANK, ("drop", "a", 5, 0))
        self.assertEqual(last_words(row), ((0, "a"),))
        self.assertIs(is_unbroken(row), False)
        other = (BLANK, ("put", "a", "x", 1, 0))
        self.assertEqual((last_words(other), last_words(other[1:])), ((), ((0, "a"),)))

    def test_refusals(self):
        for function in (is_unbroken, gist):
            refuses_each(self, Unfit, function, (None,), 0, WRONG_ROWS)


class TestGist(unittest.TestCase):
    def test_gist(self):
        for row, wanted in (((), ()), (ROW, (BLANK, ("put", "b", "y", 0, 0), ("put", "a", "z", 0, 0), ROW[3])),
                            (PAIR, (("put", "a", "x", 0, 0), ("put", "b", "y", 0, 0))), (PAIR[:1], PAIR[:1]),
                            (PAIR[1:], (("put", "b", "y", 0, 0),)), ((PUT, DROP), (BLANK, BLANK)),
                            (PAIR[:1] + ROW, (BLANK, BLANK, ("put", "b", "y", 0, 0), ("put", "a", "z", 0, 0), ROW[3])),
                            ((PAIR[0], BLANK), (BLANK, BLANK)), (BROKEN, (BLANK, BLANK)),
                            ((("drop", "a", 3, 2), ("drop", "b", 4, 1)),) * 2):
            self.assertEqual(told(self, gist, records=row), wanted, row)

    def test_by_hand(self):
        dice = dice_of(147)
        for _ in range(400):
            row = any_row(dice)
            own = [BLANK] * len(row)
            for number, _ in last_by_hand(row):
                own[number] = row[number][:3] + (0, 0)
            many = tail_by_hand(row)
            self.assertEqual(gist(row), tuple(own[:len(row) - many]) + row[len(row) - many:])
            self.assertIs(is_records(gist(row)), True)
            self.assertEqual(table_of(gist(row)), table_of(row))

    def test_whatever_is_written_behind(self):
        dice = dice_of(148)
        for _ in range(400):
            row = row_by_chance(dice)
            behind = tuple(some_record(dice) for _ in range(dice.randint(0, 4)))
            if dice.random() < 0.5 and tail_by_hand(row) > 0:
                # What goes on with the lot begun at the end.
                place, left = row[-1][-2:]
                behind = tuple(("drop", dice.choice("ab"), place + at, left - at) for at in range(1, left + 1))
            for first in range(len(row) + len(behind) + 1):
                self.assertEqual(table_of((gist(row) + behind)[first:]), table_of((row + behind)[first:]))

    def test_deeds_are_closed_whole(self):
        dice = dice_of(149)
        for _ in range(100):
            deeds = [some_deed(dice) for _ in range(4)]
            row = sum((parts_by_hand(deed) for deed in deeds), ())
            self.assertEqual(len(closed_by_hand(row)), 4)
            self.assertEqual(table_of(gist(row)), table_by_hand(row))
            self.assertEqual(gist(gist(row)), gist(row))


if __name__ == "__main__":
    unittest.main()
