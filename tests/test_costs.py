"""Point 19: costs."""

import unittest

from halfring.costs import (carried_of, is_worst_row, most_at_once, most_writes, price, syncs_of, worst_row, writes_of)
from halfring.errors import Full, Unfit
from tests.helper import (BLANK, WRONG_DEEDS, WRONG_SHAPES, StoryByHand, all_shapes, carried_by_hand, deed_of, dice_of,
                          last_by_hand, lists, parts_by_hand, refuses, refuses_each, some_wide_shapes, table_by_hand,
                          told, with_deeds_by_hand)
from tests.test_meaning import NO_NATURALS, wrong_rows

WIDE, TIGHT = (7, 2, 2), (6, 3, 2)
PUTS = (("put", "a", "x"), ("put", "b", "y"))
DROP = ("drop", "q")
LOT = ("lot", (("put", "c", "x"), ("drop", "a")))
WORST = PUTS + (DROP,) * 4


def window_in(shape):
    """How many records the window has."""
    return shape[0] - shape[1]


def done_by_hand(shape, deeds):
    """For each of deeds the pair (records carried, window ahead of it); None if one has no room."""
    window, told_of_each = (BLANK,) * window_in(shape), []
    for deed in deeds:
        table, parts = table_by_hand(window), parts_by_hand(deed)
        behind = with_deeds_by_hand(table, [deed])
        if len(table) > len(window) - len(parts) or len(behind) > len(window) - 1:
            return None
        carried = carried_by_hand(window, len(parts))
        told_of_each.append((carried, window))
        window = (window + carried + parts)[-len(window):]
        assert table_by_hand(window) == behind
    return told_of_each


def most_by_hand(shape, keys, many):
    """The most by the words of the document."""
    if many <= window_in(shape):
        return many
    least = 0
    while least * (window_in(shape) - keys) < many - window_in(shape):
        least += 1
    return many + keys * least


def deeds_by_chance(dice, shape, most, single=False):
    """A row of deeds that all have room."""
    story, deeds = StoryByHand(shape), []
    keys = "abcdefghijklmnop"[:max(1, window_in(shape) + dice.randint(-2, 1))]
    for _ in range(most):
        deed = deed_of(dice, keys)
        if not (single and deed[0] == "lot") and story.deed(deed):
            deeds.append(deed)
    return tuple(deeds)


class TestRows(unittest.TestCase):
    def test_in_each_form(self):
        for shape, deeds, whole, carried in (
                (WIDE, (), (), ()), (WIDE, PUTS, (1, 1), (0, 0)), (WIDE, PUTS + (LOT,), (1, 1, 2), (0, 0, 0)),
                (TIGHT, WORST, (1, 1, 1, 3, 3, 3), (0, 0, 0, 2, 2, 2)),
                ((8, 4, 2), PUTS + (LOT, LOT), (1, 1, 2, 4), (0, 0, 0, 2)),
                ((2, 1, 1), (DROP,) * 3, (1, 1, 1), (0, 0, 0)),
                ((4, 1, 2), PUTS + (DROP,) * 3, (1, 1, 1, 3, 3), (0, 0, 0, 2, 2)),
                ((6, 2, 2), PUTS + (DROP,) * 6, (1, 1, 1, 1, 3, 1, 3, 1), (0, 0, 0, 0, 2, 0, 2, 0))):
            self.assertEqual(told(self, writes_of, shape=shape, deeds=deeds), whole)
            self.assertEqual(told(self, carried_of, shape=shape, deeds=deeds), carried)

    def test_no_room(self):
        for shape, deeds in ((TIGHT, PUTS + (("put", "c", "x"),)), (TIGHT, PUTS + (("put", "c", "x"), DROP)),
                             (TIGHT, (("lot", (DROP,) * 4),)), ((3, 2, 2), PUTS[:1]),
                             ((3, 2, 2), (DROP, PUTS[0], DROP)),
                             ((3, 2, 2), (("lot", (DROP, DROP)),)), (TIGHT, PUTS + (("lot", (DROP, DROP)),)),
                             ((4, 1, 1), PUTS + (("put", "c", "x"),))):
            for function in (writes_of, carried_of):
                refuses(self, Full, function, shape, deeds)
                refuses(self, Full, function, list(shape), lists(deeds))
            self.assertIsNone(done_by_hand(shape, deeds))

    def test_unfit(self):
        for function in (writes_of, carried_of):
            refuses_each(self, Unfit, function, (None, PUTS), 0, WRONG_SHAPES)
            refuses_each(self, Unfit, function, (TIGHT, None), 1, wrong_rows(WRONG_DEEDS))
            # What is no deed is told ahead of what has no room.
            refuses(self, Unfit, function, TIGHT, PUTS + (("put", "c", "x"), None))


class TestMost(unittest.TestCase):
    def test_in_each_form(self):
        for shape, keys, many, wanted in (
                (TIGHT, 2, 0, 0), (TIGHT, 2, 3, 3), (TIGHT, 2, 4, 6), (TIGHT, 2, 5, 9), (TIGHT, 0, 60, 60),
                (WIDE, 2, 5, 5), (WIDE, 2, 6, 8), (WIDE, 2, 8, 10), (WIDE, 2, 9, 13), (WIDE, 4, 6, 10),
                (WIDE, 0, 10 ** 6, 10 ** 6), ((16, 1, 1), 14, 10 ** 6, 10 ** 6 + 14 * (10 ** 6 - 15)),
                ((2, 1, 2), 0, 1, 1), ((2, 1, 2), 0, 7, 7)):
            self.assertEqual(told(self, most_writes, shape=shape, keys=keys, many=many), wanted)

    def test_by_the_words(self):
        for shape in all_shapes(9, 1) + [(16, 1, 2), (16, 9, 1), (16, 15, 5)]:
            for keys in range(window_in(shape)):
                for many in range(61):
                    self.assertEqual(most_writes(shape, keys, many), most_by_hand(shape, keys, many))
                self.assertEqual(most_at_once(shape, keys), keys + 1)

    def test_most_at_once_and_price(self):
        for shape, keys, wanted in ((TIGHT, 0, (1, 1)), (TIGHT, 1, (3, 2)), (TIGHT, 2, (3, 1)), ((8, 2, 2), 2, (3, 2)),
                                    ((8, 2, 2), 3, (2, 1)), ((16, 1, 1), 5, (3, 2)), ((2, 1, 2), 0, (1, 1)),
                                    ((16, 1, 1), 14, (15, 1))):
            self.assertEqual(told(self, price, shape=shape, keys=keys), wanted)
            self.assertEqual(told(self, most_at_once, shape=shape, keys=keys), keys + 1)

    def test_price_is_that_of_the_long_run(self):
        for shape in all_shapes(8, 1):
            for keys in range(window_in(shape)):
                whole, part = price(shape, keys)
                self.assertEqual(whole * (window_in(shape) - keys), part * window_in(shape))
                self.assertFalse([own for own in range(2, whole + 1) if whole % own == 0 and part % own == 0])
                # So many deeds more take just so many records more, once the row is long.
                self.assertEqual(most_writes(shape, keys, 1000 + 60 * part) - most_writes(shape, keys, 1000),
                                 60 * whole)

    def test_syncs_of(self):
        for shape, records, wanted in ((TIGHT, 0, 0), (TIGHT, 1, 0), (TIGHT, 3, 0), (TIGHT, 4, 1), (TIGHT, 6, 1),
                                       (TIGHT, 7, 2), ((2, 1, 1), 0, 0), ((2, 1, 1), 1, 0), ((2, 1, 1), 5, 4),
                                       ((16, 15, 5), 10 ** 6, 66666)):
            self.assertEqual(told(self, syncs_of, shape=shape, records=records), wanted)
        for shape in all_shapes(6, 1):
            life = StoryByHand(shape)
            for many in range(40):
                self.assertEqual(syncs_of(shape, many), len(life.forced))
                life.write(BLANK)

    def test_unfit(self):
        for shape in (TIGHT, (2, 1, 2)):
            wrongs = NO_NATURALS + (window_in(shape), window_in(shape) + 1, 10 ** 6)
            for function, more in ((most_writes, (3,)), (most_at_once, ()), (price, ()), (worst_row, (3,)),
                                   (is_worst_row, ((),))):
                refuses_each(self, Unfit, function, (None, 0, *more), 0, WRONG_SHAPES)
                refuses_each(self, Unfit, function, (shape, None, *more), 1, wrongs)
            for function in (most_writes, worst_row):
                refuses_each(self, Unfit, function, (shape, 0, None), 2, NO_NATURALS)
            refuses_each(self, Unfit, is_worst_row, (shape, None, None), 1, wrongs)
            refuses_each(self, Unfit, syncs_of, (shape, None), 1, NO_NATURALS)
        refuses_each(self, Unfit, syncs_of, (None, 3), 0, WRONG_SHAPES)


class TestWorstRows(unittest.TestCase):
    def test_in_each_form(self):
        for shape, keys, many in ((TIGHT, 2, 20), (TIGHT, 0, 5), (TIGHT, 2, 0), (TIGHT, 2, 1), (WIDE, 4, 9),
                                  ((2, 1, 1), 0, 4)):
            row = told(self, worst_row, shape=shape, keys=keys, many=many)
            self.assertEqual(len(row), many)
            self.assertIs(told(self, is_worst_row, shape=shape, keys=keys, thing=row), True)

    def test_for_all_shapes(self):
        for shape in all_shapes(8, 1) + [(16, 1, 2), (16, 2, 5), (16, 8, 1), (16, 15, 3), (13, 4, 2)]:
            for keys in range(window_in(shape)):
                for many in (0, 1, window_in(shape), window_in(shape) + 1, 2 * window_in(shape) + 3, 60):
                    self.check(shape, keys, many, worst_row(shape, keys, many))

    def check(self, shape, keys, many, row):
        self.assertEqual(len(row), many)
        self.assertTrue(all(deed[0] in ("put", "drop") for deed in row))
        rows = done_by_hand(shape, row)
        self.assertEqual(sum(len(carried) + 1 for carried, _ in rows), most_by_hand(shape, keys, many))
        for at in range(many + 1):
            self.assertLessEqual(len(with_deeds_by_hand((), row[:at])), keys)
        self.assertIs(is_worst_row(shape, keys, row), True)
        self.assertEqual(sum(writes_of(shape, row)), most_writes(shape, keys, many))

    def test_what_is_none(self):
        for keys, thing in ((2, WORST[1:]), (1, WORST), (2, list(WORST)), (2, WORST[:-1] + (["drop", "q"],)), (2, None),
                            (2, PUTS + (("put", "c", "x"),)), (2, (DROP,) * 4), (2, (("lot", (DROP, DROP)),)),
                            (2, (None,)), (2, 5), (2, "x"), (2, True), (2, DROP), (2, (("drop", "Q"),)), (2, []),
                            (0, PUTS[:1]), (1, PUTS), (0, (("put", "a", "x"), ("drop", "a")))):
            self.assertIs(is_worst_row(TIGHT, keys, thing), False, thing)
        for keys, thing in ((2, ()), (0, ()), (2, PUTS), (2, (DROP,) * 3), (2, WORST), (0, (DROP,) * 9), (1, PUTS[:1]),
                            (2, PUTS + (("put", "a", "z"), DROP)), (1, PUTS[:1] + (DROP,) * 3)):
            self.assertEqual(is_worst_row(TIGHT, keys, thing), sum(
                len(carried) + 1 for carried, _ in done_by_hand(TIGHT, thing)) == most_by_hand(TIGHT, keys, len(thing)))
        self.assertIs(is_worst_row(TIGHT, 2, ()), True)
        self.assertIs(is_worst_row(TIGHT, 2, (DROP,) * 3), True)
        # A row in which a key is put and dropped on the way has had it.
        self.assertIs(is_worst_row(TIGHT, 1, PUTS[:1] + (("put", "b", "x"), ("drop", "b"))), False)


class TestByHand(unittest.TestCase):
    """The guarantees, beside windows kept by hand."""

    def test_rows_of_sixty_deeds(self):
        dice = dice_of(191)
        for shape in all_shapes(7, 1) + some_wide_shapes(dice, 25):
            deeds = deeds_by_chance(dice, shape, 60)
            rows = done_by_hand(shape, deeds)
            whole, carried = writes_of(shape, deeds), carried_of(shape, deeds)
            self.assertEqual(carried, tuple(len(own) for own, _ in rows))
            self.assertEqual(whole, tuple(len(own) + len(parts_by_hand(deed)) for (own, _), deed in zip(rows, deeds)))
            for (own, window), deed, many in zip(rows, deeds, whole):
                self.assertEqual(len({record[1] for record in own}), len(own))
                self.assertLessEqual(many, len(parts_by_hand(deed)) + len(last_by_hand(window)))

    def test_rows_of_singles(self):
        dice = dice_of(192)
        for shape in all_shapes(8, 1) + some_wide_shapes(dice, 30):
            deeds = deeds_by_chance(dice, shape, 60, True)
            keys = max(len(with_deeds_by_hand((), deeds[:at])) for at in range(len(deeds) + 1))
            self.check_singles(shape, keys, deeds)

    def check_singles(self, shape, keys, deeds):
        """Which records are carried, one behind the other."""
        row = [own for many in writes_of(shape, deeds) for own in [True] * (many - 1) + [False]]
        size = window_in(shape)
        self.assertNotIn(True, row[:size])
        for at in range(len(row)):
            self.assertLessEqual(sum(row[at:at + size]), keys)
        for at in range(len(deeds) + 1):
            self.assertLessEqual(sum(writes_of(shape, deeds[:at])), most_writes(shape, keys, at))
            own = sum(writes_of(shape, deeds[:at])) == most_by_hand(shape, keys, at)
            self.assertIs(is_worst_row(shape, keys, deeds[:at]), own)
        self.assertLessEqual(max(writes_of(shape, deeds), default=0), most_at_once(shape, keys))

    def test_no_row_takes_more(self):
        """All rows of up to nine singles of small shapes, those with one window being as one."""
        singles = [("put", key, "x") for key in "abc"] + [("drop", key) for key in "abq"]
        for shape in ((2, 1, 1), (3, 1, 2), (4, 1, 2), (5, 2, 1), (5, 1, 2)):
            for keys in range(min(window_in(shape), 3)):
                worst = {(BLANK,) * window_in(shape): 0}
                for many in range(1, 10):
                    worst = self.one_more(shape, keys, singles, worst)
                    self.assertEqual(max(worst.values()), most_writes(shape, keys, many))

    def one_more(self, shape, keys, singles, worst):
        """By the windows behind one single more, how many records were written at the most."""
        behind = {}
        for window, many in worst.items():
            for single in singles:
                if len(with_deeds_by_hand(table_by_hand(window), [single])) <= keys:
                    writes = carried_by_hand(window, 1) + parts_by_hand(single)
                    after = (window + writes)[-len(window):]
                    behind[after] = max(behind.get(after, 0), many + len(writes))
        return behind


if __name__ == "__main__":
    unittest.main()
