"""Point 7: devices."""

import itertools
import unittest

from halfring.devices import (blank_device, cut, cuts, fates_to, is_cell, is_device, is_fates, is_picture, many_cuts,
                              ordered, synced, torn_in, view)
from halfring.errors import CanNot, NoCell, TooMany, Unfit
from tests.helper import (BLANK, DROP, JUNK, PUT, TORN, WRONG_RECORDS, WRONG_SHAPES, all_shapes, dice_of, lists,
                          refuses, refuses_each, some_cell, some_device, some_shape, told)

SHAPE = (5, 2, 2)
BARE = (SHAPE, ((1, BLANK),) * 5, ())
TWO = (SHAPE, ((1, BLANK),) * 5, ((0, (0, PUT)), (1, (0, DROP))))
SAME = (SHAPE, ((1, BLANK),) * 4 + (TORN,), ((0, (0, PUT)), (0, (0, BLANK))))

WRONG_CONTENTS = JUNK + tuple((0, record) for record in WRONG_RECORDS) + (
    (2, PUT), (-1, PUT), (True, PUT), (None, PUT), ("0", PUT), (0, PUT, 0), (0,), (PUT, 0), PUT, BLANK)
WRONG_CELLS = tuple(own for own in WRONG_CONTENTS if own != TORN) + ((TORN,), ("torn", 0), "torn")

WRONG_PICTURES = JUNK + (((1, BLANK),) * 4, ((1, BLANK),) * 6, (TORN,) * 4, ((1, BLANK),) * 4 + ((2, BLANK),),
                         ((1, BLANK),) * 4 + (BLANK,), ((1, BLANK),) * 4 + (None,), ((True, BLANK),) * 5,
                         (TORN,) * 4 + ("torn",))

WRONG_DEVICES = JUNK + tuple((shape, BARE[1], ()) for shape in WRONG_SHAPES) + tuple(
    (SHAPE, picture, ()) for picture in WRONG_PICTURES) + (
    (SHAPE, BARE[1]), (SHAPE, BARE[1], (), ()), (SHAPE, BARE[1], None), (SHAPE, BARE[1], TWO[2] + TWO[2][:1]),
    (SHAPE, BARE[1], ((5, (0, PUT)),)), (SHAPE, BARE[1], ((-1, (0, PUT)),)), (SHAPE, BARE[1], ((True, (0, PUT)),)),
    (SHAPE, BARE[1], ((0, TORN),)), (SHAPE, BARE[1], ((0, (2, PUT)),)), (SHAPE, BARE[1], ((0, PUT),)),
    (SHAPE, BARE[1], ((0, (0, PUT), 0),)), (SHAPE, BARE[1], (0, (0, PUT))), (SHAPE, BARE[1], ((0,),)),
    (SHAPE, BARE[1], (None,)), ((5, 2, 1), BARE[1], ()), ((4, 2, 2), BARE[1], ()))

WRONG_FATES_OF_TWO = tuple(own for own in JUNK if own != ("torn", "torn")) + (
    ("new",), ("new", "old", "torn"), ("new", "New"), ("new", None), ("new", "lost"), ("newold",), "no", "ne",
    (("new",), ("old",)))


def cuts_by_hand(device):
    """Each picture that a cut can leave with the least fates that leave it, in the order of these."""
    _, picture, flight = device
    found = {}
    for fates in itertools.product(("new", "old", "torn"), repeat=len(flight)):
        cells = list(picture)
        for (cell, content), fate in zip(flight, fates):
            if fate == "new":
                cells[cell] = content
            elif fate == "torn":
                cells[cell] = TORN
        found.setdefault(tuple(cells), fates)
    return found


class TestKinds(unittest.TestCase):
    def test_cells(self):
        for content in (TORN, (0, BLANK), (1, PUT), (1, DROP), (0, ("drop", "@a", 7, 10 ** 7))):
            self.assertIs(told(self, is_cell, shape=SHAPE, thing=content), True)
            self.assertIs(is_cell(SHAPE, list(content)), False)
        for content in WRONG_CELLS + ((0, list(PUT)),):
            self.assertIs(is_cell(SHAPE, content), False, content)
        self.assertIs(is_cell((5, 2, 3), (2, PUT)), True)
        self.assertIs(is_cell((5, 2, 1), (1, PUT)), False)

    def test_pictures(self):
        for picture in (BARE[1], (TORN,) * 5, ((0, PUT), TORN, (1, DROP), (1, BLANK), (0, BLANK))):
            self.assertIs(told(self, is_picture, shape=SHAPE, thing=picture), True)
            self.assertIs(is_picture(SHAPE, list(picture)), False)
        for picture in WRONG_PICTURES + (([1, BLANK],) * 5, (list(TORN),) * 5):
            self.assertIs(is_picture(SHAPE, picture), False, picture)

    def test_devices(self):
        for device in (BARE, TWO, SAME, ((2, 1, 1), (TORN, TORN), ((1, (0, PUT)),))):
            self.assertIs(told(self, is_device, thing=device), True)
            self.assertIs(is_device(list(device)), False)
            self.assertIs(is_device((list(device[0]),) + device[1:]), False)
            self.assertIs(is_device(device[:2] + (list(device[2]),)), False)
        for device in WRONG_DEVICES:
            self.assertIs(is_device(device), False, device)

    def test_fates(self):
        for fates in itertools.product(("new", "old", "torn"), repeat=2):
            self.assertIs(told(self, is_fates, device=TWO, thing=fates), True)
            self.assertIs(is_fates(TWO, list(fates)), False)
        for fates in WRONG_FATES_OF_TWO:
            self.assertIs(is_fates(TWO, fates), False, fates)
        self.assertIs(is_fates(BARE, ()), True)
        self.assertIs(is_fates(BARE, ("new",)), False)

    def test_other_arguments_are_refused_whatever_thing_is(self):
        for thing in (TORN, None, BARE[1]):
            refuses_each(self, Unfit, is_cell, (None, thing), 0, WRONG_SHAPES)
            refuses_each(self, Unfit, is_picture, (None, thing), 0, WRONG_SHAPES)
            refuses_each(self, Unfit, is_fates, (None, thing), 0, WRONG_DEVICES)


class TestWrites(unittest.TestCase):
    def test_blank_device(self):
        for shape in all_shapes(5, 3):
            self.assertEqual(blank_device(shape), (shape, ((shape[2] - 1, BLANK),) * shape[0], ()))
        self.assertEqual(told(self, blank_device, shape=SHAPE), BARE)
        refuses_each(self, Unfit, blank_device, (None,), 0, WRONG_SHAPES)

    def test_ordered(self):
        one = told(self, ordered, device=BARE, cell=0, content=(0, PUT))
        self.assertEqual(one, (SHAPE, BARE[1], ((0, (0, PUT)),)))
        self.assertEqual(told(self, ordered, device=one, cell=1, content=(0, DROP)), TWO)
        self.assertEqual(told(self, ordered, device=one, cell=4, content=(1, BLANK)),
                         (SHAPE, BARE[1], ((0, (0, PUT)), (4, (1, BLANK)))))
        self.assertEqual(ordered(one, 0, (0, PUT))[2], ((0, (0, PUT)),) * 2)

    def test_ordered_checks_in_order(self):
        for content in (TORN, (2, PUT), None):
            refuses(self, Unfit, ordered, BARE, 5, content)
            refuses(self, Unfit, ordered, TWO, 5, content)
        for cell in (5, 6, -1, 10 ** 6):
            refuses(self, NoCell, ordered, BARE, cell, (0, PUT), cell=cell)
            refuses(self, NoCell, ordered, TWO, cell, (0, PUT), cell=cell)
        refuses(self, CanNot, ordered, TWO, 4, (0, PUT))
        refuses_each(self, Unfit, ordered, (None, 5, (0, PUT)), 0, WRONG_DEVICES)
        refuses_each(self, Unfit, ordered, (TWO, None, (0, PUT)), 1, (None, True, "0", (0,), 1.0, {}))
        refuses_each(self, Unfit, ordered, (TWO, 5, None), 2, WRONG_CONTENTS)

    def test_a_flight_of_all_writes(self):
        for shape in all_shapes(5, 2):
            device = blank_device(shape)
            for at in range(shape[1]):
                device = ordered(device, at, (0, PUT))
            refuses(self, CanNot, ordered, device, 0, (0, PUT))
            self.assertEqual(len(device[2]), shape[1])

    def test_view_and_synced(self):
        self.assertEqual(told(self, view, device=TWO), ((0, PUT), (0, DROP)) + BARE[1][2:])
        self.assertEqual(told(self, view, device=SAME)[0], (0, BLANK))
        self.assertEqual(told(self, synced, device=SAME), (SHAPE, view(SAME), ()))
        self.assertEqual(view(BARE), BARE[1])
        for function in (view, synced, cuts, many_cuts):
            refuses_each(self, Unfit, function, (None,), 0, WRONG_DEVICES)


class TestCuts(unittest.TestCase):
    def test_cut(self):
        self.assertEqual(told(self, cut, device=TWO, fates=("torn", "new")),
                         (SHAPE, (TORN, (0, DROP)) + BARE[1][2:], ()))
        for fates, left in ((("new", "old"), (0, PUT)), (("torn", "old"), TORN), (("old", "old"), (1, BLANK)),
                            (("new", "torn"), TORN), (("torn", "new"), (0, BLANK)), (("old", "new"), (0, BLANK))):
            self.assertEqual(told(self, cut, device=SAME, fates=fates)[1][0], left)
        self.assertEqual(told(self, cut, device=BARE, fates=()), BARE)

    def test_cut_refuses(self):
        refuses_each(self, Unfit, cut, (None, ("new", "old")), 0, WRONG_DEVICES)
        refuses_each(self, Unfit, cut, (TWO, None), 1, WRONG_FATES_OF_TWO)
        refuses(self, Unfit, cut, BARE, ("new",))

    def test_cuts_by_hand(self):
        dice = dice_of(11)
        for _ in range(300):
            device = some_device(dice, some_shape(dice))
            found = cuts_by_hand(device)
            self.assertEqual(cuts(device), list(found), device)
            self.assertEqual(many_cuts(device), len(found))
            for picture, fates in found.items():
                self.assertEqual(fates_to(device, picture), fates)
                self.assertEqual(cut(device, fates)[1], picture)

    def test_in_each_form(self):
        for device in (BARE, TWO, SAME):
            told(self, cuts, device=device)
            told(self, many_cuts, device=device)
            for picture in cuts(device):
                told(self, fates_to, device=device, picture=picture)
        first = cuts(TWO)
        first.append("mine")
        self.assertEqual(len(cuts(TWO)), 9)

    def test_many_in_flight(self):
        shape = (16, 15, 2)
        row = tuple((at, (0, PUT)) for at in range(15))
        for many in (7, 8):
            device = (shape, ((1, BLANK),) * 16, row[:many])
            self.assertEqual(many_cuts(device), 3 ** many)
            pictures = cuts(device)
            self.assertEqual(len(pictures), 3 ** many)
            self.assertEqual(pictures[0], view(device))
            self.assertEqual(pictures[-1], (TORN,) * many + ((1, BLANK),) * (16 - many))
        for many in (9, 15):
            device = (shape, ((1, BLANK),) * 16, row[:many])
            self.assertEqual(many_cuts(device), 3 ** many)
            refuses(self, TooMany, cuts, device)
            refuses(self, TooMany, cuts, lists(device))
            self.assertEqual(fates_to(device, view(device)), ("new",) * many)
            self.assertEqual(fates_to(device, device[1]), ("old",) * many)
        device = (shape, ((1, BLANK),) * 16, ((3, (0, PUT)), (3, (0, DROP))) * 7)
        self.assertEqual(many_cuts(device), 4)
        refuses(self, TooMany, cuts, device)
        self.assertEqual(fates_to(device, view(device)), ("new",) * 14)

    def test_fates_to_refuses(self):
        device = TWO
        for picture in ((TORN,) * 5, ((0, DROP),) + BARE[1][1:], BARE[1][:4] + (TORN,), BARE[1][:4] + ((0, PUT),)):
            refuses(self, CanNot, fates_to, device, picture)
            refuses(self, CanNot, fates_to, lists(device), lists(picture))
        refuses(self, CanNot, fates_to, BARE, view(TWO))
        refuses_each(self, Unfit, fates_to, (None, BARE[1]), 0, WRONG_DEVICES)
        refuses_each(self, Unfit, fates_to, (TWO, None), 1, WRONG_PICTURES)

    def test_fates_to_only_what_a_cut_leaves(self):
        dice = dice_of(12)
        for _ in range(300):
            device = some_device(dice, some_shape(dice))
            picture = dice.choice(cuts(device))
            at = dice.randrange(len(picture))
            other = picture[:at] + (some_cell(dice, device[0]),) + picture[at + 1:]
            if other in cuts(device):
                self.assertEqual(cut(device, fates_to(device, other))[1], other)
            else:
                refuses(self, CanNot, fates_to, device, other)


class TestTorn(unittest.TestCase):
    def test_torn_in(self):
        self.assertEqual(told(self, torn_in, picture=(TORN, (0, PUT), TORN)), (0, 2))
        self.assertEqual(told(self, torn_in, picture=BARE[1]), ())
        self.assertEqual(torn_in((TORN,) * 40), tuple(range(40)))
        self.assertEqual(torn_in(((99, BLANK), TORN)), (1,))

    def test_what_is_no_picture(self):
        wrongs = tuple(own for own in WRONG_PICTURES if own not in (
            ((1, BLANK),) * 4, ((1, BLANK),) * 6, (TORN,) * 4, ((1, BLANK),) * 4 + ((2, BLANK),), ((True, BLANK),) * 5))
        refuses_each(self, Unfit, torn_in, (None,), 0, wrongs + ((TORN,), ((0, BLANK),), ((True, BLANK), TORN),
                                                                  ((-1, BLANK), TORN), (TORN, PUT)))


class TestGuarantees(unittest.TestCase):
    def test_all(self):
        dice = dice_of(13)
        for _ in range(300):
            shape = some_shape(dice)
            device = some_device(dice, shape, full=dice.random() < 0.3)
            _, picture, flight = device
            many = len(flight)
            self.assertEqual(cut(device, ("new",) * many), synced(device))
            self.assertEqual(synced(device)[1], view(device))
            self.assertEqual(cut(device, ("old",) * many), (shape, picture, ()))
            self.assertLessEqual(many_cuts(device), 3 ** many)
            cells = [cell for cell, _ in flight]
            if len(set(cells)) == many:
                product = 1
                for cell, content in flight:
                    product *= 2 if picture[cell] in (TORN, content) else 3
                self.assertEqual(many_cuts(device), product)
            fates = tuple(dice.choice(("new", "old", "torn")) for _ in flight)
            for other in (synced(device), cut(device, fates)):
                self.assertIs(is_device(other), True)
                self.assertEqual(cuts(other), [other[1]])
            if many < shape[1]:
                self.assertIs(is_device(ordered(device, dice.randrange(shape[0]), (0, PUT))), True)


if __name__ == "__main__":
    unittest.main()
