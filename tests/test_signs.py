"""Point 4: words of a text."""

import unittest

from halfring.errors import BadText, Unfit
from halfring.signs import number_of, text_of, word_of, words
from tests.helper import JUNK, dice_of, refuses, refuses_each, told

WORDS = ("put", "a", "07@", "@", "@b", "0", "z9", "averyveryverylongwordofmorethantwelvesigns")
ALL_SIGNS = "".join(chr(code) for code in range(32, 127))
WORD_SIGNS = "abcdefghijklmnopqrstuvwxyz0123456789@"


def some_pieces(dice):
    """Pieces, their lines now and then far apart."""
    line = dice.choice((0, 0, 1, 3))
    pieces = []
    for _ in range(dice.randint(0, 8)):
        pieces.append((dice.choice(WORDS), line))
        line += dice.choice((0, 0, 0, 1, 1, 4))
    return pieces


class TestWords(unittest.TestCase):
    def test_ordinary(self):
        self.assertEqual(told(self, words, text="put a x\nsync"), [("put", 0), ("a", 0), ("x", 0), ("sync", 1)])

    def test_empty_texts(self):
        for text in ("", " ", "\n", " \n  \n", "#", "# put a", "\n#\n #x"):
            self.assertEqual(words(text), [])

    def test_remarks(self):
        self.assertEqual(words("a#b\n#c\nd # e # f\ng"), [("a", 0), ("d", 2), ("g", 3)])
        self.assertEqual(words("a # A-B ~ !\nb"), [("a", 0), ("b", 1)])

    def test_lines_are_counted_from_0_and_empty_ones_too(self):
        self.assertEqual(words("\n\na\n\nb\n"), [("a", 2), ("b", 4)])

    def test_every_sign(self):
        for sign in ALL_SIGNS:
            text = "a\nb" + sign + "c"
            if sign in WORD_SIGNS:
                self.assertEqual(words(text), [("a", 0), ("b" + sign + "c", 1)])
            elif sign == " ":
                self.assertEqual(words(text), [("a", 0), ("b", 1), ("c", 1)])
            elif sign == "#":
                self.assertEqual(words(text), [("a", 0), ("b", 1)])
            else:
                refuses(self, BadText, words, text, line=1)

    def test_the_first_bad_line_counts(self):
        refuses(self, BadText, words, "a\n# B\nc D # E\nF", line=2)
        refuses(self, BadText, words, "A\nB", line=0)
        refuses(self, BadText, words, "\n\n\na b !", line=3)

    def test_long_words(self):
        self.assertEqual(words("a" * 1000 + " @@@"), [("a" * 1000, 0), ("@@@", 0)])

    def test_each_list_is_new(self):
        first = words("a b")
        first.append("mine")
        self.assertEqual(words("a b"), [("a", 0), ("b", 0)])

    def test_more_blanks_and_remarks_change_nothing(self):
        dice = dice_of(1)
        for _ in range(200):
            pieces = some_pieces(dice)
            text = text_of(pieces).replace(" ", " " * dice.randint(1, 4))
            lines = [" " * dice.randint(0, 2) + line + dice.choice(("", " ", "# x Y", " # put ~")) for line in
                     text.split("\n")]
            self.assertEqual(words("\n".join(lines)), pieces)

    def test_a_line_break_moves_later_words_one_line_on(self):
        dice = dice_of(2)
        for _ in range(200):
            pieces = some_pieces(dice)
            if len(pieces) < 2:
                continue
            at = dice.randrange(1, len(pieces))
            ahead, behind = text_of(pieces[:at]), text_of([(word, line - pieces[at][1]) for word, line in pieces[at:]])
            gap = pieces[at][1] - pieces[at - 1][1]
            joined = ahead.rstrip("\n") + "\n" * gap + " " * (gap == 0) + behind
            self.assertEqual(words(joined), pieces)
            broken = ahead.rstrip("\n") + "\n" * gap + " \n " + behind
            self.assertEqual(words(broken), pieces[:at] + [(word, line + 1) for word, line in pieces[at:]])


class TestTextOf(unittest.TestCase):
    def test_ordinary(self):
        self.assertEqual(told(self, text_of, words=[("put", 0), ("a", 0), ("sync", 1)]), "put a\nsync\n")

    def test_edges(self):
        self.assertEqual(told(self, text_of, words=[]), "")
        self.assertEqual(told(self, text_of, words=()), "")
        self.assertEqual(told(self, text_of, words=[("a", 3)]), "\n\n\na\n")
        self.assertEqual(told(self, text_of, words=[("a", 0), ("b", 2), ("c", 2)]), "a\n\nb c\n")

    def test_words_tells_these_pieces(self):
        dice = dice_of(3)
        for _ in range(300):
            pieces = some_pieces(dice)
            self.assertEqual(words(text_of(pieces)), pieces)

    def test_no_pieces(self):
        wrongs = tuple(own for own in JUNK if own not in ((), [], "")) + (
            [("a", 1), ("b", 0)], [("a", -1)], [("", 0)], [("A", 0)], [("a b", 0)], [("a", True)], [("a", None)],
            [("a",)], [("a", 0, 0)], ["a0"], [(0, "a")], [("a", 0), None])
        refuses_each(self, Unfit, text_of, ([],), 0, wrongs)


class TestNumbers(unittest.TestCase):
    def test_number_of(self):
        for word, number in (("0", 0), ("7", 7), ("10", 10), ("999999999999", 10 ** 12 - 1), ("120", 120)):
            self.assertEqual(told(self, number_of, word=word), number)

    def test_no_number_words(self):
        for word in ("", "00", "01", "07", "1000000000000", "-1", "+1", "1 ", " 1", "1_0", "1a", "a", "@1", "1.0",
                     "0x1", "\u0661", "\u00b2", "1\n"):
            self.assertIs(told(self, number_of, word=word), None)

    def test_word_of(self):
        for number, word in ((0, "0"), (7, "7"), (120, "120"), (10 ** 12 - 1, "999999999999")):
            self.assertEqual(told(self, word_of, number=number), word)

    def test_both(self):
        for number in list(range(1200)) + [10 ** power for power in range(12)]:
            self.assertEqual(number_of(word_of(number)), number)


if __name__ == "__main__":
    unittest.main()
