"""Sheets: rows of deeds and asks, answered by one book."""

from rankseals.answers import answer
from rankseals.book import Book
from rankseals.errors import BadDay, BadRow, NoDeed, NoHand, NoLeave, NoPaper, NoPart, NoRank, NoRule, Taken, Twice
from rankseals.reading import read_row

MOST_ROWS = {"part": 8, "rank": 20, "leave": 16, "rule": 10, "paper": 10, "sign": 10}


def run(text):
    """The list of the answers to the rows of a sheet."""
    # Each row is read ahead of the first answer, so that a bad one is refused ahead of all.
    rows = read_rows(text)
    book = Book()
    return [answer_or_refusal(book, row) for row in rows]


def read_rows(text):
    """The list of the rows that have words, as they are read; refused with BadRow at the first bad one."""
    rows = []
    for number, line in enumerate(text.split("\n")):
        row = read_row(line)
        if row is None:
            raise BadRow(number)
        if row != ():
            rows.append(row)
            if is_too_many(rows):
                raise BadRow(number)
    return rows


def is_too_many(rows):
    """Whether there are more rows of the last one's kind than a sheet may have; signs by their papers."""
    word = rows[-1][0]
    if word not in MOST_ROWS:
        return False
    told = 2 if word == "sign" else 1
    alike = [row for row in rows if row[:told] == rows[-1][:told]]
    return len(alike) > MOST_ROWS[word]


def answer_or_refusal(book, row):
    try:
        return answer(book, row)
    except Taken:
        return "taken"
    except NoPart:
        return "no part"
    except NoRank:
        return "no rank"
    except NoLeave:
        return "no leave"
    except NoRule:
        return "no rule"
    except NoPaper:
        return "no paper"
    except NoHand:
        return "no hand"
    except NoDeed:
        return "no deed"
    except BadDay:
        return "bad day"
    except Twice:
        return "twice"
