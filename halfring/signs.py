"""Words of a text, and numbers as words."""

from halfring.errors import BadText
from halfring.values import checked, is_natural, is_row, is_row_of

FIGURES = "0123456789"
WORD_SIGNS = "abcdefghijklmnopqrstuvwxyz0123456789@"
MOST_FIGURES = 12


def words(text):
    """The pieces of text, pairs (word, line); BadText(line) for a sign that stands in no word."""
    pieces = []
    for at, line in enumerate(text.split("\n")):
        said = line.partition("#")[0]
        if not all([sign == " " or sign in WORD_SIGNS for sign in said]):
            raise BadText(at)
        pieces.extend([(word, at) for word in said.split(" ") if word != ""])
    return pieces


def text_of(words):
    """The text with each word in its line."""
    pieces = checked(is_pieces, words)
    if len(pieces) == 0:
        return ""
    lines = [[] for _ in range(pieces[-1][1] + 1)]
    for word, line in pieces:
        lines[line].append(word)
    return "".join([" ".join(line) + "\n" for line in lines])


def is_pieces(thing):
    """Whether thing is a tuple of pairs (word, line), lines from 0 never falling."""
    if not is_row_of(is_piece, thing):
        return False
    return all([thing[at - 1][1] <= thing[at][1] for at in range(1, len(thing))])


def is_piece(thing):
    """Whether thing is a pair (word, line)."""
    return is_row(thing, 2) and is_text_word(thing[0]) and is_natural(thing[1])


def is_text_word(thing):
    """Whether thing is a word, of whatever length."""
    return isinstance(thing, str) and thing != "" and all([sign in WORD_SIGNS for sign in thing])


def number_of(word):
    """The number of a number word; None if it is none."""
    if not 1 <= len(word) <= MOST_FIGURES or not all([sign in FIGURES for sign in word]):
        return None
    if word[0] == "0" and word != "0":
        return None
    return int(word)


def word_of(number):
    """The number word of number."""
    return str(number)
