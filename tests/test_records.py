"""Point 6: records."""

import unittest

from halfring.errors import Unfit
from halfring.records import (closed_in, is_deed, is_key, is_record, is_table, is_word, keys_of, left_begun, parts_of,
                              row_of, with_deeds, with_single)
from tests.helper import (BLANK, WRONG_DEEDS, WRONG_KEYS, WRONG_RECORDS, WRONG_SINGLES, WRONG_TABLES, WRONG_WORDS,
                          dice_of, lists, refuses, refuses_each, some_deed, some_record, some_single, told)

PAIR = ("lot", (("put", "a", "x"), ("drop", "b")))
TRIO = ("lot", (("put", "a", "x"), ("drop", "b"), ("put", "a", "y")))
MORE = ("put", "c", "z")


def singles_of(deed):
    """The singles of deed."""
    return deed[1] if deed[0] == "lot" else (deed,)


def wrong_rows(wrongs):
    """Rows in which each of wrongs stands, alone and behind something right; what is no row, too."""
    rows = [(wrong,) for wrong in wrongs] + [None, True, 5, "", "x", {}, b"", 1.5]
    return tuple(rows)


class TestKinds(unittest.TestCase):
    def test_keys(self):
        for key in ("a", "0", "z9", "@a", "@0", "abcdefghijkl", "@abcdefghijkl", "012345678901"):
            self.assertIs(told(self, is_key, thing=key), True)
        for key in WRONG_KEYS:
            self.assertIs(is_key(key), False, key)

    def test_words(self):
        for word in ("a", "0", "z9", "abcdefghijkl", "012345678901"):
            self.assertIs(told(self, is_word, thing=word), True)
        for word in WRONG_WORDS:
            self.assertIs(is_word(word), False, word)

    def test_records(self):
        for record in (BLANK, ("put", "a", "x", 0, 0), ("put", "@a", "0", 3, 10 ** 9), ("drop", "a", 0, 0),
                       ("drop", "@put", 10 ** 9, 2)):
            self.assertIs(told(self, is_record, thing=record), True)
            self.assertIs(is_record(list(record)), False)
        for record in WRONG_RECORDS:
            self.assertIs(is_record(record), False, record)

    def test_deeds(self):
        big = ("lot", (("put", "a", "x"),) * 500)
        for deed in (MORE, ("drop", "@a"), PAIR, TRIO, big):
            self.assertIs(told(self, is_deed, thing=deed), True)
            self.assertIs(is_deed(list(deed)), False)
        in_lists = (("lot", [("put", "a", "x"), ("drop", "b")]), ("lot", (["drop", "a"], ("drop", "b"))))
        for deed in WRONG_DEEDS + in_lists:
            self.assertIs(is_deed(deed), False, deed)

    def test_tables(self):
        for table in ((), (("a", "x"),), (("0", "x"), ("@a", "x"), ("@b", "x"), ("a", "x"))):
            self.assertIs(told(self, is_table, thing=table), True)
            self.assertIs(is_table(list(table)), False)
        for table in WRONG_TABLES + ((["a", "x"],),):
            self.assertIs(is_table(table), False, table)


class TestRows(unittest.TestCase):
    def test_parts_of(self):
        self.assertEqual(told(self, parts_of, deed=MORE), (("put", "c", "z", 0, 0),))
        self.assertEqual(told(self, parts_of, deed=("drop", "@c")), (("drop", "@c", 0, 0),))
        self.assertEqual(told(self, parts_of, deed=PAIR), (("put", "a", "x", 0, 1), ("drop", "b", 1, 0)))
        self.assertEqual(told(self, parts_of, deed=TRIO),
                         (("put", "a", "x", 0, 2), ("drop", "b", 1, 1), ("put", "a", "y", 2, 0)))

    def test_row_of(self):
        self.assertEqual(told(self, row_of, deeds=()), ())
        self.assertEqual(told(self, row_of, deeds=(MORE, PAIR)), parts_of(MORE) + parts_of(PAIR))

    def test_keys_of(self):
        self.assertEqual(told(self, keys_of, deed=MORE), ("c",))
        self.assertEqual(told(self, keys_of, deed=TRIO), ("a", "b"))
        mixed = ("lot", (("drop", "b"), ("put", "@b", "x"), ("put", "0", "x"), ("drop", "b")))
        self.assertEqual(told(self, keys_of, deed=mixed), ("0", "@b", "b"))

    def test_what_is_no_deed(self):
        refuses_each(self, Unfit, parts_of, (None,), 0, WRONG_DEEDS)
        refuses_each(self, Unfit, keys_of, (None,), 0, WRONG_DEEDS)
        refuses_each(self, Unfit, row_of, (None,), 0, wrong_rows(WRONG_DEEDS))
        refuses(self, Unfit, row_of, (MORE, None))
        refuses(self, Unfit, row_of, MORE)


class TestClosed(unittest.TestCase):
    def test_single_records(self):
        row = (("put", "a", "x", 0, 0), BLANK, ("drop", "b", 0, 0))
        self.assertEqual(told(self, closed_in, records=row), [(0, (("put", "a", "x"),)), (2, (("drop", "b"),))])

    def test_empty_rows(self):
        self.assertEqual(told(self, closed_in, records=()), [])
        self.assertEqual(told(self, left_begun, records=()), 0)
        self.assertEqual(closed_in((BLANK,)), [])
        self.assertEqual(left_begun((BLANK,)), 0)

    def test_lots(self):
        row = row_of((TRIO, MORE))
        self.assertEqual(told(self, closed_in, records=row), [(2, TRIO[1]), (3, (MORE,))])

    def test_the_beginning_may_lack(self):
        row = parts_of(TRIO)
        self.assertEqual(told(self, closed_in, records=row[1:]), [(1, TRIO[1][1:])])
        self.assertEqual(closed_in(row[2:]), [(0, TRIO[1][2:])])
        self.assertEqual(closed_in((("drop", "a", 9, 0),)), [(0, (("drop", "a"),))])
        self.assertEqual(closed_in((("put", "a", "x", 8, 1), ("drop", "a", 9, 0))),
                         [(1, (("put", "a", "x"), ("drop", "a")))])

    def test_what_does_not_close(self):
        one, two, three = parts_of(TRIO)
        for row in ((one, two), (one, BLANK, three), (BLANK, three), (one, three), (two, two, three),
                    (one, two, BLANK, three), (BLANK, two, three), (one, ("drop", "b", 1, 2), three),
                    (one, ("drop", "b", 0, 1), three), (("put", "a", "x", 0, 1), two, three)):
            self.assertEqual(told(self, closed_in, records=row), [])

    def test_another_lot_between(self):
        one, two, three = parts_of(TRIO)
        single = ("put", "q", "w", 0, 0)
        self.assertEqual(closed_in((one, single, two, three)), [(1, (("put", "q", "w"),))])
        self.assertEqual(closed_in((one, two, single, three)), [(2, (("put", "q", "w"),))])

    def test_one_record_may_close_inside_of_others(self):
        self.assertEqual(closed_in((("put", "a", "x", 0, 0), ("drop", "b", 1, 0))), [(0, (("put", "a", "x"),))])

    def test_left_begun(self):
        one, two, three = parts_of(TRIO)
        for row, many in (((one,), 1), ((one, two), 2), ((one, two, three), 0), ((two,), 1), ((one, one), 1),
                          ((one, one, two), 2), ((BLANK, two), 1), ((one, BLANK), 0), ((two, two), 1),
                          ((three, one), 1), ((three, one, two), 2), ((("put", "a", "x", 0, 1), two), 1),
                          ((("drop", "b", 0, 2), BLANK, two), 1), ((("drop", "b", 5, 3), ("drop", "b", 6, 2)), 2)):
            self.assertEqual(told(self, left_begun, records=row), many, row)

    def test_what_is_no_row(self):
        for function in (closed_in, left_begun):
            refuses_each(self, Unfit, function, (None,), 0, wrong_rows(WRONG_RECORDS))
            refuses(self, Unfit, function, (BLANK, None))
            refuses(self, Unfit, function, BLANK)

    def test_each_list_is_new(self):
        first = closed_in(parts_of(MORE))
        first.append("mine")
        self.assertEqual(len(closed_in(parts_of(MORE))), 1)


class TestClosedInRowsOfDeeds(unittest.TestCase):
    """The guarantees, on many rows."""

    def wanted(self, deeds):
        closed, at = [], -1
        for deed in deeds:
            at += len(singles_of(deed))
            closed.append((at, singles_of(deed)))
        return closed

    def test_rows_of_deeds_close_just_these(self):
        dice = dice_of(4)
        for _ in range(150):
            deeds = tuple(some_deed(dice) for _ in range(dice.randint(0, 6)))
            row, wanted = row_of(deeds), self.wanted(deeds)
            self.assertEqual(closed_in(row), wanted)
            self.assertEqual(left_begun(row), 0)
            for cut in range(len(row) + 1):
                self.assertEqual(closed_in(row[:cut]), [own for own in wanted if own[0] < cut])
                ends = [own[0] + 1 for own in wanted if own[0] < cut]
                self.assertEqual(left_begun(row[:cut]), cut - max(ends, default=0))
                left = [(at - cut, singles[-(at - cut + 1):]) for at, singles in wanted if at >= cut]
                self.assertEqual(closed_in(row[cut:]), left)

    def test_a_deed_is_closed_whole_whatever_stands_about_it(self):
        dice = dice_of(5)
        for _ in range(300):
            deed = some_deed(dice)
            front = tuple(some_record(dice) for _ in range(dice.randint(0, 4)))
            front += parts_of(some_deed(dice))[:dice.randint(0, 3)]
            back = tuple(some_record(dice) for _ in range(dice.randint(0, 4)))
            at = len(front) + len(parts_of(deed)) - 1
            self.assertIn((at, singles_of(deed)), closed_in(front + parts_of(deed) + back))

    def test_a_broken_lot_is_not_closed(self):
        dice = dice_of(6)
        for _ in range(200):
            parts = parts_of(("lot", tuple(some_single(dice) for _ in range(dice.randint(2, 5)))))
            at = dice.randrange(1, len(parts))
            noise = dice.choice(((BLANK,), parts_of(MORE), (("drop", "q", 0, 9),)))
            row = parts[:at] + noise + parts[at:]
            self.assertNotIn(len(row) - 1, [own for own, _ in closed_in(row)])
            lacking = (BLANK,) + parts[:at - 1] + parts[at:]
            self.assertNotIn(len(lacking) - 1, [own for own, _ in closed_in(lacking)])


class TestTables(unittest.TestCase):
    def test_with_single(self):
        table = (("@a", "x"), ("a", "x"))
        for single, wanted in ((("put", "a", "y"), (("@a", "x"), ("a", "y"))), (("drop", "a"), (("@a", "x"),)),
                               (("put", "0", "y"), (("0", "y"), ("@a", "x"), ("a", "x"))), (("drop", "q"), table),
                               (("put", "a", "x"), table), (("put", "b", "z"), table + (("b", "z"),))):
            self.assertEqual(told(self, with_single, table=table, single=single), wanted)
        self.assertEqual(told(self, with_single, table=(), single=("drop", "a")), ())
        self.assertEqual(told(self, with_single, table=(), single=("put", "a", "x")), (("a", "x"),))

    def test_with_deeds(self):
        table = (("b", "x"),)
        self.assertEqual(told(self, with_deeds, table=table, deeds=()), table)
        self.assertEqual(told(self, with_deeds, table=table, deeds=(TRIO, MORE)), (("a", "y"), ("c", "z")))
        swap = ("lot", (("drop", "b"), ("put", "b", "y")))
        self.assertEqual(told(self, with_deeds, table=table, deeds=(swap,)), (("b", "y"),))
        back = ("lot", (("put", "b", "y"), ("drop", "b")))
        self.assertEqual(told(self, with_deeds, table=table, deeds=(back,)), ())

    def test_one_behind_another(self):
        dice = dice_of(7)
        for _ in range(200):
            deeds = tuple(some_deed(dice) for _ in range(dice.randint(0, 6)))
            table, kept = (), {}
            for deed in deeds:
                for single in singles_of(deed):
                    table = with_single(table, single)
                    kept.pop(single[1], None)
                    kept.update([single[1:]] if single[0] == "put" else [])
            self.assertEqual(with_deeds((), deeds), table)
            self.assertEqual(table, tuple(sorted(kept.items())))
            self.assertIs(is_table(table), True)

    def test_what_is_none(self):
        refuses_each(self, Unfit, with_single, (None, MORE), 0, WRONG_TABLES)
        refuses_each(self, Unfit, with_deeds, (None, (MORE,)), 0, WRONG_TABLES)
        refuses_each(self, Unfit, with_single, ((), None), 1, WRONG_SINGLES + (PAIR,))
        refuses_each(self, Unfit, with_deeds, ((), None), 1, wrong_rows(WRONG_DEEDS))
        refuses(self, Unfit, with_deeds, (), MORE)
        self.assertEqual(with_deeds(lists((("b", "x"),)), lists((PAIR,))), (("a", "x"),))


if __name__ == "__main__":
    unittest.main()
