"""Point 23: the examiner."""

import itertools
import unittest

from halfring.errors import CanNot, TooMany, Unfit
from halfring.examiner import (bars, can_lie, flaws, is_life_to, is_near_lying, is_reason, life_to, near_lying,
                               patterns,
                               reason)
from halfring.log import is_life
from tests.helper import (BLANK, DROP, FEW, JUNK, PUT, TORN, WRONG_SHAPES, LifeByHand, all_shapes, dice_of,
                          fits_by_hand,
                          life_by_hand, lists, pictures_of, refuses, refuses_each, shows_by_hand, some_cell, some_life,
                          some_wide_shapes, told)
from tests.test_devices import WRONG_PICTURES
from tests.test_fits import NO_PLACES
from tests.test_log import WRONG_LIVES

SHAPE = (4, 1, 3)
FIVE = (5, 3, 2)
FINE = ((1, BLANK), TORN, (0, BLANK), (0, BLANK))
WRONG = ((1, BLANK), (2, BLANK), (0, BLANK), (0, BLANK))
SIX = (("write", BLANK),) * 5 + (("sync",), ("write", BLANK), ("cut", ("torn",)))
FATES = ("new", "old", "torn")


def bars_by_hand(shape, picture, place):
    """The cells that bar place, by the words of the document."""
    cells, flight, _ = shape
    barring = set()
    for back in range(1, cells - flight + 1):
        if not shows_by_hand(shape, picture, place - back):
            barring.add((place - back) % cells)
    for step in range(flight):
        shown = [shows_by_hand(shape, picture, number) for number in (place + step - cells, place + step)]
        if picture[(place + step) % cells] != TORN and True not in shown:
            barring.add((place + step) % cells)
    return tuple(sorted(barring))


def unlike(one, other):
    """How many cells of two pictures are not the same."""
    return sum(own != its for own, its in zip(one, other))


def pattern_by_hand(picture):
    """The marks of a picture, -1 where it is torn."""
    return tuple(-1 if own == TORN else own[0] for own in picture)


def near_by_chance(dice, shape):
    """A picture that can lie, or does but for a few cells, or one by chance."""
    life = some_life(dice, shape, 40)
    picture = list(life.picture)
    for cell in dice.sample(range(shape[0]), dice.choice((0, 0, 1, 1, 2, min(3, shape[0])))):
        picture[cell] = some_cell(dice, shape)
    if dice.random() < 0.2:
        return tuple(some_cell(dice, shape) for _ in range(shape[0]))
    return tuple(picture)


class TestBars(unittest.TestCase):
    def test_in_each_form(self):
        for picture, place, wanted in ((FINE, 5, ()), (WRONG, 5, (1,)), (FINE, 0, (0, 1, 2, 3)), (FINE, 6, (1,)),
                                       (FINE, 4, (1,)), ((TORN,) * 4, 7, (0, 1, 2)), ((TORN,) * 4, 8, (1, 2, 3))):
            self.assertEqual(bars_by_hand(SHAPE, picture, place), wanted)
            self.assertEqual(told(self, bars, shape=SHAPE, picture=picture, place=place), wanted)

    def test_unfit(self):
        refuses_each(self, Unfit, bars, (None, FINE, 0), 0, WRONG_SHAPES)
        refuses_each(self, Unfit, bars, (FIVE, None, 0), 1, WRONG_PICTURES)
        refuses_each(self, Unfit, bars, (FIVE, (TORN,) * 5, None), 2, NO_PLACES)
        refuses(self, Unfit, bars, SHAPE, FINE, 12)


class TestLie(unittest.TestCase):
    def test_can_lie(self):
        for shape, picture, wanted in ((SHAPE, FINE, True), (SHAPE, WRONG, False), (SHAPE, (TORN,) * 4, False),
                                       ((2, 1, 1), (TORN, TORN), False), ((2, 1, 1), (TORN, (0, PUT)), True),
                                       ((4, 3, 1), ((0, PUT),) * 4, True),
                                       ((4, 3, 1), (TORN,) * 3 + ((0, PUT),), True)):
            self.assertIs(told(self, can_lie, shape=shape, picture=picture), wanted)

    def test_life_to(self):
        for shape, picture in ((SHAPE, FINE), ((4, 3, 1), ((0, PUT), (0, DROP), TORN, (0, BLANK)))):
            life = told(self, life_to, shape=shape, picture=picture)
            self.assertEqual(life_by_hand(shape, life).device(), (shape, picture, ()))
            self.assertEqual([event[0] for event in life].count("cut"), 1)
            self.assertEqual(life[-1][0], "cut")
            self.assertIs(told(self, is_life_to, shape=shape, picture=picture, thing=life), True)
        for picture in (WRONG, (TORN,) * 4):
            refuses(self, CanNot, life_to, SHAPE, picture)
            refuses(self, CanNot, life_to, list(SHAPE), lists(picture))

    def test_is_life_to(self):
        self.assertIs(is_life_to(SHAPE, FINE, SIX), True)
        for thing in (SIX[:5], SIX[:-1], list(SIX), SIX[:-1] + (list(SIX[-1]),), SIX[:-1] + (("cut", ("old",)),), (),
                      None,
                      SIX + (None,), 5, "x", True):
            self.assertIs(is_life_to(SHAPE, FINE, thing), False, thing)
        for wrong in WRONG_LIVES:
            self.assertIs(is_life_to(FIVE, ((1, BLANK),) * 5, wrong), False, wrong)

    def test_any_life_leads_somewhere_whatever_is_in_flight(self):
        """What is in flight at the end is not in the picture; the last event need not be a cut."""
        void, one = ((2, BLANK),) * 4, ((0, PUT),) + ((2, BLANK),) * 3
        for picture, life in ((void, ()), (void, (("write", PUT),)), (one, (("write", PUT), ("sync",))),
                              (one, (("write", PUT), ("write", DROP))), (void, (("write", PUT), ("cut", ("old",)))),
                              (one, (("write", PUT), ("cut", ("new",)), ("wake",))),
                              (one, (("write", PUT), ("cut", ("new",)), ("mend", 0, ())))):
            self.assertIs(is_life_to(SHAPE, picture, life), True)
            self.assertIs(is_life_to(SHAPE, one if picture == void else void, life), False)

    def test_reason(self):
        for shape, picture in ((SHAPE, WRONG), (SHAPE, (TORN,) * 4), ((2, 1, 1), (TORN, TORN))):
            row = told(self, reason, shape=shape, picture=picture)
            self.assertEqual(len(row), shape[0] * shape[2])
            for place, cell in enumerate(row):
                self.assertIn(cell, bars_by_hand(shape, picture, place))
            self.assertIs(told(self, is_reason, shape=shape, picture=picture, thing=row), True)
        for picture in (FINE, ((2, BLANK),) * 4):
            refuses(self, CanNot, reason, SHAPE, picture)
            refuses(self, CanNot, reason, list(SHAPE), lists(picture))

    def test_is_reason(self):
        row = reason(SHAPE, WRONG)
        for place in range(12):
            for cell in (-1, 0, 1, 2, 3, 4, None, True, False, "1", 1.0, (1,)):
                thing = row[:place] + (cell,) + row[place + 1:]
                wanted = type(cell) is int and cell in bars_by_hand(SHAPE, WRONG, place)
                self.assertIs(is_reason(SHAPE, WRONG, thing), wanted, thing)
        for thing in (list(row), row[:-1], row + (0,), (), None, 5, "x", True, (row,)) + JUNK:
            self.assertIs(is_reason(SHAPE, WRONG, thing), False, thing)
        self.assertIs(is_reason(SHAPE, FINE, row), False)
        self.assertIs(is_reason(SHAPE, FINE, (1,) * 12), False)

    def test_flaws(self):
        for shape, picture, wanted in ((SHAPE, WRONG, 1), (SHAPE, FINE, 0), (SHAPE, (TORN,) * 4, 3),
                                       ((16, 1, 5), (TORN,) * 16, 15), ((2, 1, 1), (TORN, TORN), 1),
                                       ((16, 15, 2), (TORN,) * 16, 1)):
            self.assertEqual(told(self, flaws, shape=shape, picture=picture), wanted)
            near = told(self, near_lying, shape=shape, picture=picture)
            self.assertEqual(unlike(near, picture), wanted)
            self.assertNotEqual(fits_by_hand(shape, near), [])
            self.assertIs(told(self, is_near_lying, shape=shape, picture=picture, thing=near), True)

    def test_is_near_lying(self):
        for thing in (WRONG, (TORN,) * 4, list(FINE), FINE[:3] + (list(FINE[3]),), ((1, BLANK), TORN, (0, BLANK), (0,
            PUT)),
                      ((True, BLANK),) + FINE[1:], FINE[:3], FINE + (TORN,), None, 5, "x", (), True):
            self.assertIs(is_near_lying(SHAPE, WRONG, thing), False, thing)
        self.assertIs(is_near_lying(SHAPE, WRONG, ((1, BLANK), (1, PUT), (0, BLANK), (0, BLANK))), True)
        self.assertIs(is_near_lying(SHAPE, FINE, FINE), True)
        self.assertIs(is_near_lying(SHAPE, FINE, ((1, PUT),) + FINE[1:]), False)
        for wrong in WRONG_PICTURES:
            self.assertIs(is_near_lying(FIVE, ((1, BLANK),) * 5, wrong), False, wrong)

    def test_unfit(self):
        for function, more in ((can_lie, ()), (life_to, ()), (is_life_to, (None,)), (reason, ()), (is_reason, (None,)),
                               (flaws, ()), (near_lying, ()), (is_near_lying, (None,))):
            refuses_each(self, Unfit, function, (None, FINE, *more), 0, WRONG_SHAPES)
            refuses_each(self, Unfit, function, (FIVE, None, *more), 1, WRONG_PICTURES)


class TestPatterns(unittest.TestCase):
    def test_in_each_form(self):
        self.assertEqual(told(self, patterns, shape=(2, 1, 2)), ((-1, 0), (-1, 1), (0, -1), (0, 0), (0, 1), (1, -1),
                                                                 (1, 0),
                                                                (1, 1)))
        self.assertEqual(told(self, patterns, shape=(2, 1, 1)), ((-1, 0), (0, -1), (0, 0)))
        for shape, many in (((3, 2, 2), 26), ((3, 2, 3), 45), ((4, 1, 3), 24)):
            self.assertEqual(len(patterns(shape)), many)

    def test_by_all_pictures(self):
        for shape in FEW + ((5, 1, 3), (5, 4, 1), (4, 3, 4), (5, 1, 1)):
            wanted = sorted({pattern_by_hand(own) for own in pictures_of(shape) if fits_by_hand(shape, own) != []})
            self.assertEqual(patterns(shape), tuple(wanted), shape)

    def test_too_many(self):
        for shape in ((6, 1, 1), (6, 5, 2), (16, 1, 5)):
            refuses(self, TooMany, patterns, shape)
            refuses(self, TooMany, patterns, list(shape))
        self.assertEqual(len(patterns((5, 4, 5))), len(set(patterns((5, 4, 5)))))
        refuses_each(self, Unfit, patterns, (None,), 0, WRONG_SHAPES)


class TestByHand(unittest.TestCase):
    """The guarantees."""

    def check(self, shape, picture):
        """All that is said of one picture; how many flaws it has."""
        rows = [bars_by_hand(shape, picture, place) for place in range(shape[0] * shape[2])]
        many = min(len(row) for row in rows)
        lies = fits_by_hand(shape, picture) != []
        self.assertIs(can_lie(shape, picture), lies)
        self.assertIs(lies, many == 0)
        self.assertEqual(flaws(shape, picture), many)
        self.assertLessEqual(many, shape[0] - 1)
        for place in range(len(rows)):
            self.assertEqual(bars(shape, picture, place), rows[place])
        near = near_lying(shape, picture)
        self.assertEqual((unlike(near, picture), fits_by_hand(shape, near) != []), (many, True))
        self.assertIs(is_near_lying(shape, picture, near), True)
        if lies:
            self.check_life(shape, picture)
        else:
            refuses(self, CanNot, life_to, shape, picture)
            row = reason(shape, picture)
            self.assertTrue(all(cell in barring for cell, barring in zip(row, rows)))
            self.assertEqual(len(row), len(rows))
            self.assertIs(is_reason(shape, picture, row), True)
        return many

    def check_life(self, shape, picture):
        cells, flight, marks = shape
        life = life_to(shape, picture)
        self.assertEqual(life_by_hand(shape, life).device(), (shape, picture, ()))
        self.assertLessEqual(len(life), (marks + 1) * cells + flight + 1)
        self.assertEqual([event[0] for event in life].count("cut"), 1)
        self.assertEqual(life[-1][0], "cut")
        self.assertIs(is_life(shape, life), True)
        self.assertIs(is_life_to(shape, picture, life), True)
        refuses(self, CanNot, reason, shape, picture)

    def test_all_pictures_of_small_shapes(self):
        for shape in FEW:
            for picture in pictures_of(shape):
                many = self.check(shape, picture)
                if shape[2] == 1 and TORN not in picture:
                    self.assertEqual(many, 0)

    def test_flaws_are_the_least(self):
        """What differs in fewer cells can not lie."""
        for shape in ((2, 1, 3), (3, 1, 2), (3, 2, 3), (4, 2, 2), (4, 3, 2), (3, 1, 1)):
            pictures = pictures_of(shape)
            lying = [own for own in pictures if fits_by_hand(shape, own) != []]
            for picture in pictures:
                self.assertEqual(flaws(shape, picture), min(unlike(own, picture) for own in lying))
            for picture, other in itertools.product(pictures[::5], pictures[::3]):
                near = other in lying and unlike(other, picture) == flaws(shape, picture)
                self.assertIs(is_near_lying(shape, picture, other), near)

    def test_no_record_tells_it(self):
        dice = dice_of(231)
        for shape in all_shapes(6, 3):
            picture = near_by_chance(dice, shape)
            bare = tuple(own if own == TORN else (own[0], BLANK) for own in picture)
            for function in (can_lie, flaws):
                self.assertEqual(function(shape, picture), function(shape, bare))
            for place in range(shape[0] * shape[2]):
                self.assertEqual(bars(shape, picture, place), bars(shape, bare, place))

    def test_pictures_by_chance(self):
        dice = dice_of(232)
        counts = []
        for shape in all_shapes(7, 4) + some_wide_shapes(dice, 60):
            for _ in range(3):
                counts.append(self.check(shape, near_by_chance(dice, shape)))
        for many in (0, 1, 2):
            self.assertGreater(counts.count(many), 20)

    def test_whatever_lives_lead_to(self):
        """At each moment, writes in flight or not, mending cut off anywhere and again."""
        dice = dice_of(233)
        for shape in all_shapes(6, 3) + some_wide_shapes(dice, 15):
            for _ in range(3):
                life = LifeByHand(shape)
                for _ in range(30):
                    if not life.go_on(dice):
                        break
                    self.assertIs(can_lie(shape, tuple(life.picture)), True)
                    self.assertIs(is_life_to(shape, tuple(life.picture), tuple(life.events)), True)

    def test_all_that_lives_lead_to(self):
        """Of small shapes all pictures of blank cells to which any life of blank records leads."""
        for shape in ((2, 1, 1), (2, 1, 2), (3, 1, 1), (3, 2, 1), (3, 1, 2), (3, 2, 2), (2, 1, 3), (3, 2, 3)):
            wanted = {own for own in pictures_of(shape) if fits_by_hand(shape, own) != []}
            self.assertEqual(self.reached(shape), wanted)
            self.assertEqual({own for own in pictures_of(shape) if can_lie(shape, own)}, wanted)

    def reached(self, shape):
        """The pictures of all devices to which lives of blank records lead."""
        first = (((shape[2] - 1, BLANK),) * shape[0], (), 0)
        known, open_ones = {first}, [first]
        while open_ones:
            for state in self.next_states(shape, open_ones.pop()):
                if state not in known:
                    known.add(state)
                    open_ones.append(state)
        return {picture for picture, _, _ in known}

    def next_states(self, shape, state):
        """The triples (picture, flight, place of the next record, None asleep) behind one event more."""
        picture, flight, place = state
        life = LifeByHand(shape)
        life.picture, life.flight, life.begun = list(picture), list(flight), place
        if place is None:
            if life.answer() is None:
                return
            answer = life.answer()
            writes = life.mending()
            for many in range(len(writes) + 1):
                for fates in itertools.product(FATES, repeat=many):
                    life.picture, life.flight = list(picture), writes[:many]
                    life.fall(fates)
                    yield tuple(life.picture), (), None
            life.picture, life.flight = list(picture), writes
            life.settle()
            yield tuple(life.picture), (), answer
            return
        for fates in itertools.product(FATES, repeat=len(flight)):
            life.picture, life.flight = list(picture), list(flight)
            life.fall(fates)
            yield tuple(life.picture), (), None
        life.picture, life.flight = list(picture), list(flight)
        life.settle()
        yield tuple(life.picture), (), place
        life.picture, life.flight = list(picture), list(flight)
        life.write(BLANK)
        yield tuple(life.picture), tuple(life.flight), (place + 1) % life.turn()


if __name__ == "__main__":
    unittest.main()
