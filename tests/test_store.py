"""Point 16: the store."""

import copy
import unittest

from halfring.devices import is_device
from halfring.errors import Asleep, Awake, Full, NoKey, Unfit, Unsafe
from halfring.log import begun_log, device_behind, is_log, records_of
from halfring.records import is_table
from halfring.store import Store
from tests.helper import (BLANK, JUNK, TORN, WRONG_DEEDS, WRONG_KEYS, WRONG_SHAPES, WRONG_SINGLES, WRONG_WORDS,
                          StoryByHand, all_shapes, deed_of, depth_of, dice_of, is_safe_by_hand, lists, lists_at, refuses,
                          refuses_each, safe_shapes, some_told, table_by_hand)
from tests.test_mending import NO_FATES

RING = (8, 4, 2)
LOT = ("lot", (("drop", "k"), ("put", "n", "x")))
NO_FATES_AT_ALL = NO_FATES + tuple(own for own in JUNK if own not in ((), [], ("torn", "torn")))
WRONG_LOTS = tuple(own[1] for own in WRONG_DEEDS if isinstance(own, tuple) and own[:1] == ("lot",) and len(own) == 2) + (
    (), (("drop", "a"),), ("drop", "a"), None, LOT, (LOT, LOT), (("drop", "a"), LOT), (("drop", "a"), BLANK)) + tuple(
    (("drop", "a"), wrong) for wrong in WRONG_SINGLES)
# Each method with arguments with which it does not raise Unfit().
CALLS = {"put": ("a", "x"), "drop": ("a",), "lot": (LOT[1],), "get": ("a",), "table": (), "kept": (),
         "has_room": (("drop", "a"),), "sync": (), "cut": ((),), "log": ()}


def begun():
    """A store with four writes in flight: a put, a put, a lot of two parts."""
    own = Store(RING)
    own.put("k", "one")
    own.put("m", "two")
    own.lot(LOT[1])
    return own


def asleep(*fates):
    """That store behind a cut."""
    own = begun()
    own.cut(fates or ("new",) * 4)
    return own


def face(store):
    """All that a store tells without being changed."""
    if not store.is_awake():
        return store.device(), False
    words = [store.get(key) for key, _ in store.table()]
    return store.device(), store.log(), store.table(), words, store.kept()


class TestBegin(unittest.TestCase):
    def test_at_the_beginning(self):
        for shape in safe_shapes(6, 4):
            own = Store(shape)
            self.assertEqual(face(own), (begun_log(shape)[0], begun_log(shape), (), [], 0))
            self.assertIs(own.is_awake(), True)

    def test_forms(self):
        self.assertEqual(Store(list(RING)), Store(RING))
        self.assertEqual(Store(shape=RING), Store(RING))
        self.assertEqual(Store([8, 4, 2]).device()[0], RING)

    def test_unsafe(self):
        for shape in all_shapes(8, 3):
            if not is_safe_by_hand(shape):
                refuses(self, Unsafe, Store, shape)
                refuses(self, Unsafe, Store, list(shape))
        refuses_each(self, Unfit, Store, (None,), 0, WRONG_SHAPES)


class TestDeeds(unittest.TestCase):
    def test_deeds(self):
        own = Store(RING)
        self.assertIsNone(own.put("k", "one"))
        self.assertIsNone(own.put("k", "two"))
        self.assertIsNone(own.drop("q"))
        self.assertIsNone(own.lot(LOT[1]))
        self.assertEqual(own.table(), (("n", "x"),))
        self.assertEqual(records_of(own.log()), (("put", "k", "two", 0, 0), ("drop", "q", 0, 0), ("drop", "k", 0, 1),
                                                 ("put", "n", "x", 1, 0)))
        self.assertEqual((own.kept(), own.get("n"), own.log()[1]), (1, "x", 5))

    def test_forms(self):
        whole = Store(RING)
        whole.put("k", "one")
        whole.lot(LOT[1])
        for depth in range(depth_of(LOT[1])):
            own = Store(RING)
            own.put(word="one", key="k")
            given = lists_at(LOT[1], depth)
            own.lot(deeds=given)
            self.assertEqual(given, lists_at(LOT[1], depth))
            self.assertEqual(own, whole)
            self.assertIs(own.has_room(deed=lists(LOT)), True)
        whole.drop(key="n")
        self.assertEqual(whole.table(), ())
        own.drop("n")
        self.assertEqual(own, whole)

    def test_what_is_given_is_copied(self):
        given = lists(LOT[1])
        own = Store(RING)
        own.lot(given)
        given[1][2] = "changed"
        given.append(["drop", "n"])
        self.assertEqual(own.table(), (("n", "x"),))
        fates = ["new", "old"]
        own.cut(fates)
        fates.append("new")
        own.wake()
        self.assertEqual(own.table(), ())

    def test_get(self):
        own = begun()
        self.assertEqual(own.get(key="n"), "x")
        for key in ("k", "q", "@n", "abcdefghijkl"):
            refuses(self, NoKey, own.get, key, key=key)
        own.drop("n")
        refuses(self, NoKey, own.get, "n", key="n")

    def test_room(self):
        own = begun()
        own.put("a", "x")
        for deed, wanted in ((("put", "b", "x"), False), (("put", "a", "y"), True), (("drop", "z"), True),
                             (("lot", (("drop", "a"), ("put", "b", "x"))), False), (("lot", (("drop", "a"),) * 2), False)):
            self.assertIs(own.has_room(deed), wanted)
        own.drop("a")
        self.assertIs(own.has_room(("lot", (("drop", "m"), ("put", "b", "x")))), True)
        self.assertIs(own.has_room(("lot", (("put", "c", "x"), ("put", "b", "x")))), False)
        self.assertIs(own.has_room(("lot", (("drop", "m"),) * 3)), False)

    def test_full(self):
        own = begun()
        own.put("a", "x")
        before = face(own)
        for function, args in ((own.put, ("b", "x")), (own.lot, ((("drop", "a"), ("put", "b", "x")),)),
                               (own.lot, ((("drop", "m"),) * 5,))):
            refuses(self, Full, function, *args)
            self.assertEqual(face(own), before)

    def test_a_window_of_one(self):
        for shape in ((2, 1, 2), (3, 2, 3)):
            own = Store(shape)
            refuses(self, Full, own.put, "a", "x")
            refuses(self, Full, own.lot, (("drop", "a"), ("drop", "b")))
            self.assertIsNone(own.drop("a"))
            self.assertEqual((own.table(), own.log()[1]), ((), 1))

    def test_carried_ahead(self):
        own = begun()
        own.put("a", "x")
        own.drop("z")
        self.assertEqual(own.log()[1], 7)
        self.assertEqual(records_of(own.log())[2:], (("put", "m", "two", 0, 0), ("drop", "z", 0, 0)))

    def test_what_it_told_does_not_change(self):
        own = begun()
        told = face(own)
        kept = copy.deepcopy(told)
        own.put("a", "x")
        own.sync()
        own.cut(())
        own.wake()
        self.assertEqual(told, kept)


class TestPower(unittest.TestCase):
    def test_cut_and_wake(self):
        for fates, table, place in ((("new",) * 4, (("m", "two"), ("n", "x")), 4),
                                    (("new", "new", "new", "old"), (("k", "one"), ("m", "two")), 3),
                                    (("new", "old", "new", "new"), (("k", "one"),), 1),
                                    (("torn", "new", "new", "new"), (), 0), (("old",) * 4, (), 0)):
            own = begun()
            self.assertIsNone(own.cut(fates=list(fates)))
            self.assertIs(own.is_awake(), False)
            self.assertEqual(own.device()[2], ())
            self.assertIsNone(own.wake())
            self.assertIs(own.is_awake(), True)
            self.assertEqual((own.table(), own.log()[1]), (table, place))

    def test_what_is_synced_stands(self):
        own = begun()
        self.assertIsNone(own.sync())
        self.assertEqual(own.device()[2], ())
        own.sync()
        own.cut(())
        own.wake()
        self.assertEqual((own.table(), own.log()[1]), ((("m", "two"), ("n", "x")), 4))

    def test_mend(self):
        own = asleep("new", "old", "torn", "new")
        for many, fates in ((0, ()), (1, ("old",)), (1, ["new"]), (0, []), (0, ())):
            self.assertIsNone(own.mend(many=many, fates=fates))
            self.assertIs(own.is_awake(), False)
        self.assertEqual(own.device()[1][1:4], ((1, BLANK), TORN, (1, BLANK)))
        own.wake()
        self.assertEqual((own.table(), own.log()[1]), ((("k", "one"),), 1))

    def test_a_lot_cut_off(self):
        three = (("put", "a", "x"), ("put", "b", "y"), ("drop", "k"))
        for came in range(4):
            own = Store((12, 5, 2))
            own.put("k", "one")
            own.sync()
            own.lot(three)
            own.cut(("new",) * came + ("old",) * (3 - came))
            own.wake()
            self.assertEqual(own.log()[1], came + 1)
            self.assertEqual(own.table(), (("a", "x"), ("b", "y")) if came == 3 else (("k", "one"),))
            # What is begun again is whole, whatever is left of the first.
            own.lot(three)
            self.assertEqual(own.table(), (("a", "x"), ("b", "y")))

    def test_asleep(self):
        own = asleep()
        before = face(own)
        for name, args in CALLS.items():
            refuses(self, Asleep, getattr(own, name), *args)
        refuses(self, Asleep, own.cut, ("new",))
        refuses(self, Asleep, own.put, "q", "x")
        refuses(self, Asleep, own.get, "q")
        refuses(self, Asleep, own.has_room, ("lot", (("drop", "a"),) * 5))
        self.assertEqual(face(own), before)

    def test_awake(self):
        own = begun()
        before = face(own)
        refuses(self, Awake, own.wake)
        for many, fates in ((0, ()), (5, ("new",)), (-1, ()), (None, ()), ("x", ("old", "old"))):
            refuses(self, Awake, own.mend, many, fates)
        self.assertEqual(face(own), before)

    def test_fates_that_do_not_suit(self):
        own = begun()
        before = face(own)
        for fates in ((), ("new",), ("new",) * 3, ("new",) * 5):
            refuses(self, Unfit, own.cut, fates)
        own.sync()
        refuses(self, Unfit, own.cut, ("new",))
        self.assertNotEqual(face(own), before)
        own = asleep("new", "old", "new", "new")
        before = face(own)
        for many, fates in ((3, ("new",) * 3), (-1, ()), (None, ()), (True, ("new",)), (False, ()), ("0", ()), (1.0, ("new",)),
                            ((), ()), ([], ()), (1, ()), (0, ("new",)), (2, ("new",)), (10 ** 6, ())):
            refuses(self, Unfit, own.mend, many, fates)
        self.assertEqual(face(own), before)
        self.assertIsNone(own.mend(2, ("torn", "old")))


class TestUnfit(unittest.TestCase):
    def test_ahead_of_all(self):
        for own in (begun(), asleep()):
            before = face(own)
            refuses_each(self, Unfit, own.put, (None, "x"), 0, WRONG_KEYS)
            refuses_each(self, Unfit, own.put, ("a", None), 1, WRONG_WORDS)
            for function in (own.drop, own.get):
                refuses_each(self, Unfit, function, (None,), 0, WRONG_KEYS)
            refuses_each(self, Unfit, own.lot, (None,), 0, WRONG_LOTS)
            refuses_each(self, Unfit, own.has_room, (None,), 0, WRONG_DEEDS)
            refuses_each(self, Unfit, own.cut, (None,), 0, NO_FATES_AT_ALL)
            refuses_each(self, Unfit, own.mend, (None, None), 1, NO_FATES_AT_ALL)
            self.assertEqual(face(own), before)


class TestTwins(unittest.TestCase):
    def test_twin(self):
        own = begun()
        other = own.twin()
        self.assertIsNot(own, other)
        self.assertIsInstance(other, Store)
        self.assertIs(own == other, True)
        self.assertIs(own != other, False)
        other.put("a", "x")
        self.assertIs(own == other, False)
        self.assertIs(own != other, True)
        self.assertEqual(face(own), face(begun()))
        third = asleep().twin()
        self.assertEqual(face(third), face(asleep()))
        third.wake()
        self.assertEqual(third.table(), (("m", "two"), ("n", "x")))

    def test_equal(self):
        one, other = begun(), begun()
        self.assertIs(one == other, True)
        one.sync()
        self.assertIs(one == other, False)
        one.cut(())
        other.cut(("new",) * 4)
        self.assertIs(one == other, True)
        one.wake()
        self.assertEqual(one.device(), other.device())
        self.assertIs(one == other, False)
        self.assertIs(one != other, True)
        other.wake()
        self.assertIs(one == other, True)
        self.assertIs(Store(RING) == Store((8, 4, 3)), False)
        for other in (None, 5, "x", (), [], begun().log()):
            self.assertIs(begun() == other, False)
            self.assertIs(begun() != other, True)

    def test_asleep_the_place_is_not_asked_for(self):
        one, other = Store((3, 1, 2)), Store((3, 1, 2))
        for _ in range(6):
            one.drop("a")
        for _ in range(12):
            other.drop("a")
        for own in (one, other):
            own.cut(("new",))
        self.assertIs(one == other, True)

    def test_one_device_with_unlike_logs(self):
        """Two stores awake with one device have one log, if it is safe; asleep the place is gone."""
        dice = dice_of(161)
        stores = []
        for _ in range(60):
            own = Store((3, 1, 2))
            for _ in range(dice.randint(0, 12)):
                own.drop(dice.choice("ab"))
            stores.append(own)
        for one in stores:
            for other in stores:
                self.assertIs(one == other, one.log() == other.log())


class TestByHand(unittest.TestCase):
    """The guarantees: a store beside a story played by hand, with the deeds that were not lost done on a plain table."""

    def check(self, own, story):
        self.assertEqual(own.device(), story.device())
        self.assertIs(own.is_awake(), story.awake)
        self.assertIs(is_device(own.device()), True)
        if story.awake:
            table = story.plain(story.begun)
            self.assertEqual(own.table(), table)
            self.assertEqual(own.table(), table_by_hand(story.window()))
            self.assertEqual(own.kept(), len(table))
            self.assertEqual(own.log(), (story.device(), story.begun % story.turn()))
            self.assertEqual(records_of(own.log()), story.window())
            self.assertIs(is_log(own.log()), True)
            self.assertIs(is_table(own.table()), True)
            for key, word in table:
                self.assertEqual(own.get(key), word)

    def go_on(self, own, story, event):
        """Does event in the store; the story has done it."""
        if event[0] != "deed":
            self.assertIsNone(getattr(own, event[0])(*event[1:]))
            return
        deed = event[1]
        room = len(story.story) - 1 not in story.refused
        self.assertIs(own.has_room(deed), room)
        function = getattr(own, deed[0])
        if room:
            self.assertIsNone(function(*deed[1:]))
        else:
            refuses(self, Full, function, *deed[1:])

    def play(self, dice, shape, most, keys):
        own, story = Store(shape), StoryByHand(shape)
        for _ in range(most):
            if not story.awake:
                self.check_asleep(story)
            story.tell_on(dice, keys)
            self.go_on(own, story, story.story[-1])
            self.check(own, story)
        life = tuple(story.events)
        self.assertEqual(own.device(), device_behind(shape, life))
        return own, story

    def check_asleep(self, story):
        self.assertTrue(story.stands <= story.number_kept() <= story.begun)

    def test_small_shapes(self):
        dice = dice_of(162)
        for shape in safe_shapes(8, 4):
            self.play(dice, shape, 40, "abcdefgh"[:max(1, shape[0] - shape[1])])

    def test_wide_shapes(self):
        dice = dice_of(163)
        refused = 0
        for shape in ((16, 10, 2), (16, 15, 3), (16, 8, 2), (16, 2, 2), (12, 7, 2), (15, 9, 5), (14, 9, 4)):
            for _ in range(2):
                _, story = self.play(dice, shape, 60, "abcdefghijklmnop"[:max(2, shape[0] - shape[1])])
                refused += len(story.refused)
        self.assertGreater(refused, 20)

    def test_twins_go_their_own_ways(self):
        dice = dice_of(164)
        for _ in range(30):
            shape = dice.choice(safe_shapes(8, 3))
            own, story = self.play(dice, shape, 15, "abc")
            twin, other = own.twin(), copy.deepcopy(story)
            for _ in range(10):
                for store, told in ((own, story), (twin, other)):
                    told.tell_on(dice, "abc")
                    self.go_on(store, told, told.story[-1])
                    self.check(store, told)

    def test_a_lot_is_whole_or_not_at_all(self):
        dice = dice_of(165)
        for _ in range(60):
            story = some_told(dice, dice.choice(((9, 4, 2), (12, 7, 2), (8, 5, 2), (7, 4, 3))), 12)
            if not story.awake:
                story.wake()
            deed = deed_of(dice, "abcd")
            while not story.has_room(deed):
                deed = deed_of(dice, "abcd")
            before = story.plain(story.begun)
            story.sync()
            story.deed(deed)
            own = self.again(story)
            self.check(own, story)
            own.cut(tuple(dice.choice(("new", "old", "torn")) for _ in story.flight))
            own.wake()
            self.assertIn(own.table(), (before, story.plain(story.begun)))

    def again(self, story):
        """A store that did what story did."""
        own = Store(story.shape)
        for at, event in enumerate(story.story):
            if event[0] != "deed":
                getattr(own, event[0])(*event[1:])
            elif at not in story.refused:
                getattr(own, event[1][0])(*event[1][1:])
        return own


if __name__ == "__main__":
    unittest.main()
