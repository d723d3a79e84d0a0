"""Rows of a sheet, read word by word."""

from rankseals.houses import MOST_SEATS
from rankseals.words import is_name

# What stands behind a row's first word; rules have seats behind these.
KINDS = {
    "part": ("name", "within"),
    "rank": ("name", "rank", "name", "day", "day"),
    "endrank": ("number", "day"),
    "leave": ("name", "name", "name", "day", "day", "sum"),
    "endleave": ("number", "day"),
    "back": ("number",),
    "again": ("number",),
    "rule": ("name", "sum"),
    "norule": ("name", "sum"),
    "paper": ("name", "name", "sum", "day", "name", "name"),
    "sign": ("name", "name", "name", "day"),
    "draw": ("name", "number", "day"),
    "undo": (),
    "stands": ("name", "day"),
    "standing": ("day",),
    "hands": ("name", "day"),
    "more": ("name", "day"),
    "row": ("name", "number"),
    "leans": ("number", "day"),
    "splits": ("sum", "days"),
    "seats": ("name", "sum"),
}
NUMBERS = {"day": (0, 99999), "sum": (0, 10 ** 9), "rank": (1, 9), "number": (0, 999), "days": (1, 999)}
MOST_FIGURES = 10


def read_row(row):
    """The tuple of a row's words, numbers as such; () of one without words; None of what is none."""
    words = [word for word in row.split(" ") if word != ""]
    if not words:
        return ()
    if words[0] not in KINDS:
        return None
    kinds = KINDS[words[0]]
    things = read_words(kinds, words[1:len(kinds) + 1])
    rest = words[len(kinds) + 1:]
    if things is None:
        return None
    if words[0] == "rule":
        return read_rule(things, rest)
    told = (words[0],) + things
    return told if not rest and fits_together(told) else None


def read_rule(things, rest):
    """The tuple of a rule with its seats; None where one of them is none, or there are too many."""
    seats = [read_seat(word) for word in rest]
    if len(seats) > MOST_SEATS or None in seats:
        return None
    return ("rule",) + things + (tuple(seats),)


def fits_together(told):
    """Whether a rank or a leave has days in their order, and a leave two people."""
    if told[0] == "leave" and told[1] == told[2]:
        return False
    return told[0] not in ("rank", "leave") or told[4] <= told[5]


def read_words(kinds, words):
    """The tuple of what the words say; None where one says nothing of its kind, or there are too few."""
    things = [read_word(kind, word) for kind, word in zip(kinds, words)]
    return None if len(things) < len(kinds) or None in things else tuple(things)


def read_word(kind, word):
    if kind == "name":
        return word if is_name(word) else None
    if kind == "within":
        return "" if word == "-" else read_word("name", word)
    return read_number(kind, word)


def read_number(kind, word):
    """The number that a word of this kind says; None where it's not in plain figures or beyond its bounds."""
    if not is_plain(word):
        return None
    lowest, highest = NUMBERS[kind]
    return int(word) if lowest <= int(word) <= highest else None


def is_plain(word):
    """Whether a word is in plain figures, no nought ahead but 0 itself, and of no more than a sum may have."""
    # Python's own reading takes signs ahead and figures of other scripts, too.
    if not 1 <= len(word) <= MOST_FIGURES or not all(["0" <= sign <= "9" for sign in word]):
        return False
    return word == "0" or word[0] != "0"


def read_seat(word):
    """The pair (rank, part) of a seat, the part empty where none is told; None of what is none."""
    figures, slash, part = word.partition("/")
    rank = read_number("rank", figures)
    if rank is None or (slash != "" and not is_name(part)):
        return None
    return rank, part
