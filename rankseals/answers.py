"""What a book answers to the rows of a sheet, each deed and each ask by a def of its own."""

from rankseals.errors import NoPart
from rankseals.further import how_many
from rankseals.leaning import bare_paper, leaning
from rankseals.leaves import row_of
from rankseals.rules import seats_of
from rankseals.splitting import splits


def answer_part(book, row):
    word, part, within = row
    return done(book.add_part(part, within))


def answer_rank(book, row):
    word, person, rank, part, first, last = row
    return done(book.give_rank(person, rank, part, first, last))


def answer_endrank(book, row):
    word, n, last = row
    return done(book.end_rank(n, last))


def answer_leave(book, row):
    word, giver, taker, part, first, last, most = row
    return done(book.give_leave(giver, taker, part, first, last, most))


def answer_endleave(book, row):
    word, n, last = row
    return done(book.end_leave(n, last))


def answer_back(book, row):
    word, n = row
    return done(book.take_back(n))


def answer_again(book, row):
    word, n = row
    return done(book.give_again(n))


def answer_rule(book, row):
    word, part, amount, seats = row
    return done(book.set_rule(part, amount, seats))


def answer_norule(book, row):
    word, part, amount = row
    return done(book.drop_rule(part, amount))


def answer_paper(book, row):
    word, name, part, amount, day, asker, getter = row
    return done(book.put_paper(name, part, amount, day, asker, getter))


def answer_sign(book, row):
    word, name, holder, signer, day = row
    return done(book.sign(name, holder, signer, day))


def answer_draw(book, row):
    word, name, n, day = row
    return done(book.draw_back(name, n, day))


def answer_undo(book, row):
    return done(book.undo())


def answer_stands(book, row):
    word, name, day = row
    return "yes" if book.stands_on(name, day) else "no"


def answer_standing(book, row):
    word, day = row
    return listed(book.standing(day), " ")


def answer_hands(book, row):
    word, name, day = row
    hands = book.hands_on(name, day)
    return listed([f"{n} {holder} {signer}" for n, holder, signer, when in hands], " ; ")


def answer_more(book, row):
    word, name, day = row
    many = how_many(book.more_on(name, day))
    return "never" if many is None else str(many)


def answer_row(book, row):
    word, name, n = row
    holder, signer, day = book.hand_of(name, n)
    numbers = row_of(book.house(), bare_paper(book, name), holder, signer, day)
    if numbers is None:
        return "none"
    return " ".join([str(number) for number in numbers]) if numbers else "itself"


def answer_leans(book, row):
    word, n, day = row
    return listed(leaning(book, n, day), " ")


def answer_splits(book, row):
    word, bound, days = row
    return listed([" ".join(names) for names in splits(book, bound, days)], " ; ")


def answer_seats(book, row):
    word, part, amount = row
    if not book.has_part(part):
        raise NoPart(f"there is no part {part}")
    seats = seats_of(book.house(), part, amount)
    return listed([f"{rank}/{where}" for rank, where in seats], " ")


def done(number):
    """The answer to a deed, with the number behind it where one is told."""
    return "done" if number is None else f"done {number}"


def listed(texts, between):
    return between.join(texts) if texts else "none"


ANSWERS = {
    "part": answer_part,
    "rank": answer_rank,
    "endrank": answer_endrank,
    "leave": answer_leave,
    "endleave": answer_endleave,
    "back": answer_back,
    "again": answer_again,
    "rule": answer_rule,
    "norule": answer_norule,
    "paper": answer_paper,
    "sign": answer_sign,
    "draw": answer_draw,
    "undo": answer_undo,
    "stands": answer_stands,
    "standing": answer_standing,
    "hands": answer_hands,
    "more": answer_more,
    "row": answer_row,
    "leans": answer_leans,
    "splits": answer_splits,
    "seats": answer_seats,
}


def answer(book, row):
    """The book's answer to a row that was read."""
    asked = ANSWERS[row[0]]
    return asked(book, row)
