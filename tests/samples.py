"""Houses and odd things that the tests share, and the plain words of the document as slow defs."""

import re

# p lies within nothing; q and r within p; s within q; z stands by itself.
PARTS = (("p", ""), ("q", "p"), ("r", "p"), ("s", "q"), ("z", ""))

# One thing of each kind that may be asked about, none of them a NAME or a number from 0 on.
ODD_THINGS = (
    None, True, False, -1, "", " ", "A", "1", "\n", "\t", "toolonger",
    [], (), [0], (0,), ["p"], ("p",), [[]], ((),), [None], (None,), (True,), ((("p",),),),
)


def nest(depth, core):
    """A tuple in a list in a tuple .., so many deep."""
    for at in range(depth):
        core = (core,) if at % 2 else [core]
    return core


def letters(at):
    """A NAME of two letters for each number from 0 on, rising with it."""
    return chr(97 + at // 26) + chr(97 + at % 26)


def put(thing, path, value):
    """A copy of nested tuples and lists with another value at a path of places."""
    if not path:
        return value
    at = path[0]
    inner = put(thing[at], path[1:], value)
    return thing[:at] + ([inner] if isinstance(thing, list) else (inner,)) + thing[at + 1:]


def look(thing, path):
    """What stands at a path of places."""
    for at in path:
        thing = thing[at]
    return thing


def paths(thing, path=()):
    """The paths to all that stands in nested tuples and lists, the whole one first."""
    found = [path]
    if isinstance(thing, (tuple, list)):
        for at, inner in enumerate(thing):
            found += paths(inner, path + (at,))
    return found


def chain_house(many):
    """A house of one part with a chain of leaves from aa on, the last number given first."""
    leaves = tuple((at, letters(many - 1 - at), letters(many - at), "p", 5, 9, 100) for at in range(many))
    return ((("p", ""),), (), leaves, ())


def house_of(*leaves, parts=PARTS):
    """A house with leaves (number, giver, taker) of part p, days 5 to 9, most 100."""
    full = tuple(sorted(leave + ("p", 5, 9, 100)[len(leave) - 3:] for leave in leaves))
    return (parts, (), full, ())


def every_row(house, paper, holder, signer, day):
    """All rows without a leave twice, by the plain words of [7]."""
    over = over_of(house, paper[0])
    letting = [leave for leave in house[2]
               if leave[3] in over and leave[4] <= day <= leave[5] and paper[1] <= leave[6]]
    if holder in paper[2:] or signer in paper[2:]:
        return []
    if holder == signer:
        return [[]]
    rows, open_rows = [], [([], holder)]
    while open_rows:
        row, at = open_rows.pop()
        if row and at == signer:
            rows.append(row)
        for leave in letting:
            if leave[1] == at and leave[2] not in paper[2:] and leave[0] not in row:
                open_rows.append((row + [leave[0]], leave[2]))
    return rows


def over_of(house, part):
    """A part and all within which it lies, by the plain words of [5]."""
    outer, over = dict(house[0]), []
    while part in outer:
        over, part = over + [part], outer[part]
    return over


def fits(house, paper, seat, hand):
    """Whether the hand may fill the seat, by the plain words of [9]."""
    holder, signer, day = hand
    held = [row[2] for row in house[1]
            if row[1] == holder and row[3] in over_of(house, seat[1]) and row[4] <= day <= row[5]]
    return max(held + [0]) >= seat[0] and bool(every_row(house, paper, holder, signer, day))


def small_changes(thing):
    """All that comes of a told thing by one small change somewhere in it."""
    found = []
    for path in paths(thing):
        inner = look(thing, path)
        changed = [odd for odd in ODD_THINGS if odd != inner or isinstance(odd, bool)]
        if isinstance(inner, (tuple, list)):
            kind, other = (list, tuple) if isinstance(inner, list) else (tuple, list)
            changed += [other(inner), [inner], (inner,)] + [inner[:at] + inner[at + 1:] for at in range(len(inner))]
            changed += [inner[:at + 1] + inner[at:] for at in range(len(inner))]
            changed += [inner[:at] + inner[at:at + 2][::-1] + inner[at + 2:] for at in range(len(inner) - 1)]
            changed += [inner + kind([more]) for more in (0, 1, 5, 99, True, None, "anna", (0, 0), [0])]
        elif isinstance(inner, int):
            changed += [inner + 1, inner - 1, inner == 1, str(inner)]
        elif isinstance(inner, str):
            changed += [inner + "a", inner[:-1], inner.upper(), [inner]]
        found += [put(thing, path, value) for value in changed]
    return found


def net_house(many, edges):
    """A house whose paper NET has so many seats, each in a part of its own; edges (person, seat) tell who may fill."""
    parts = tuple((letters(at), "") for at in range(8))
    ranks = tuple((number, "p" + letters(who), 1, letters(seat), 0, 9) for number, (who, seat) in enumerate(edges))
    seats = tuple((1, letters(seat)) for seat in range(many))
    return (parts, ranks, (), ((letters(0), 0, seats),))


NET = (letters(0), 100, "xena", "yves")


def own_hands(people):
    """Hands of people of a net house, each signing for themselves."""
    return [("p" + letters(who), "p" + letters(who), 5) for who in people]


def odd_case(chance, most_seats, most_hands):
    """A house, a paper and hands by a seeded chance; hands by themselves and by leaves, some that fill nothing."""
    people = "abcdex"
    ranks = tuple((number, chance.choice(people), chance.choice((1, 3, 6, 6)), chance.choice("pppqrs"),
                   chance.randint(0, 2), chance.randint(2, 4)) for number in range(chance.randint(0, 20)))
    leaves = []
    for number in sorted(chance.sample(range(20), chance.randint(0, 12))):
        giver, taker = chance.sample(people, 2)
        leaves.append((number, giver, taker, chance.choice("pppqrs"), chance.randint(0, 2), chance.randint(2, 4),
                       chance.choice((99, 100, 100, 500))))
    seats = tuple((chance.choice((1, 1, 1, 3, 4, 6)), chance.choice(("", "", "p", "q", "r", "s")))
                  for _ in range(chance.randint(0, most_seats)))
    house = (PARTS, ranks, tuple(leaves), (("p", 0, seats),))
    paper = (chance.choice("pqqs"), 100, "x", chance.choice("xye"))
    many = max(chance.randint(0, most_hands), chance.randint(0, most_hands))
    hands = list(zip(chance.sample(people, many), chance.sample(people, many),
                     [chance.choice((0, 1, 2, 2, 2, 3, 4)) for _ in range(many)]))
    if chance.random() < 0.3:
        hands = [(holder, holder, day) for holder, signer, day in hands]
    return house, paper, hands


def seats_by_words(house, paper):
    """The seats of a paper, by the plain words of [6]."""
    for part in over_of(house, paper[0]):
        bounds = {bound: seats for where, bound, seats in house[3] if where == part}
        if bounds:
            below = [bound for bound in bounds if bound <= paper[1]]
            return [(rank, where or paper[0]) for rank, where in (bounds[max(below)] if below else ())]
    return []


def fit_pairs(house, paper, hands):
    """All pairs (seat, hand) where the hand may fill the seat."""
    seats = seats_by_words(house, paper)
    return [(seat, hand) for seat in range(len(seats)) for hand in range(len(hands))
            if fits(house, paper, seats[seat], hands[hand])]


def every_filling(many, pairs):
    """All fillings of so many seats by these pairs."""
    found = [[]]
    for seat in range(many):
        found += [filling + [pair] for filling in found for pair in pairs
                  if pair[0] == seat and pair[1] not in [hand for _, hand in filling]]
    return found


def sublists(things):
    """All rising lists of some of these things."""
    found = [[]]
    for thing in things:
        found += [some + [thing] for some in found]
    return found


def every_cover(many, hands, pairs):
    """All covers of so many seats and hands for these pairs."""
    return [(seats, covered) for seats in sublists(range(many)) for covered in sublists(range(hands))
            if all(seat in seats or hand in covered for seat, hand in pairs)]


def most_filled(seats, pairs):
    """How many of these seats can be filled at most, by counting the hands that some of them have together."""
    return min(len(seats) - len(some) + len({hand for seat, hand in pairs if seat in some})
               for some in sublists(seats))


def is_rising_list(thing, is_one):
    """Whether thing is a list, each thing in it such a one and above the one ahead of it."""
    return (isinstance(thing, list) and all(is_one(some) for some in thing)
            and all(low < high for low, high in zip(thing, thing[1:])))


def is_place(many):
    return lambda thing: type(thing) is int and 0 <= thing < many


def is_person(thing):
    return isinstance(thing, str) and re.fullmatch("[a-z]{1,8}", thing) is not None


def is_two(first, second):
    return lambda thing: isinstance(thing, tuple) and len(thing) == 2 and first(thing[0]) and second(thing[1])


def people_of(house):
    """All who are named in the house."""
    return sorted({row[1] for row in house[1]} | {name for row in house[2] for name in row[1:3]})


def every_new(house, paper, hands, day):
    """All new ones of people of the house, by the plain words of [11]."""
    holders, signers = [hand[0] for hand in hands], [hand[1] for hand in hands]
    return [(holder, signer) for holder in people_of(house) for signer in people_of(house)
            if holder not in holders and signer not in signers and every_row(house, paper, holder, signer, day)]


def says_so(house, paper, hands, day, thing):
    """Whether thing is such as more_for tells, by the plain words of [11] and [12]."""
    if not isinstance(thing, tuple) or not thing or thing[0] not in ("more", "none"):
        return False
    seats = seats_by_words(house, paper)
    pairs = fit_pairs(house, paper, hands)
    if thing[0] == "more":
        return len(thing) == 4 and more_is_so(house, paper, hands, day, thing[1:], seats, pairs)
    if len(thing) != 5 or not is_rising_list(thing[1], is_place(len(seats))):
        return False
    if not is_rising_list(thing[2], is_place(len(hands))):
        return False
    if not is_rising_list(thing[3], is_person) or not is_rising_list(thing[4], is_person):
        return False
    left = [at for at in range(len(seats)) if at not in thing[1]]
    return (sum(map(len, thing[1:])) < len(seats)
            and not [hand for seat, hand in pairs if seat in left and hand not in thing[2]]
            and not [(holder, signer) for holder, signer in every_new(house, paper, hands, day)
                     if holder not in thing[3] and signer not in thing[4]
                     and any(fits(house, paper, seats[at], (holder, signer, day)) for at in left)])


def more_is_so(house, paper, hands, day, told, seats, pairs):
    news, filling, cover = told
    if not is_rising_list(news, is_two(is_person, is_person)):
        return False
    together = hands + [pair + (day,) for pair in news]
    if not is_rising_list(filling, is_two(is_place(len(seats)), is_place(len(together)))):
        return False
    if not is_two(lambda some: is_rising_list(some, is_place(len(seats))),
                  lambda some: is_rising_list(some, is_place(len(hands))))(cover):
        return False
    return (all(pair in every_new(house, paper, hands, day) for pair in news)
            and all(len({hand[at] for hand in together}) == len(together) for at in (0, 1))
            and [seat for seat, _ in filling] == list(range(len(seats)))
            and len({hand for _, hand in filling}) == len(filling)
            and all(fits(house, paper, seats[seat], together[hand]) for seat, hand in filling)
            and all(seat in cover[0] or hand in cover[1] for seat, hand in pairs)
            and len(cover[0]) + len(cover[1]) == len(seats) - len(news))


def fewest_news(house, paper, hands, day):
    """How many new ones fill all seats with the hands, by trying all; None where none do."""
    seats = seats_by_words(house, paper)
    pairs = fit_pairs(house, paper, hands)
    news = every_new(house, paper, hands, day)

    def fewest(seat, used):
        if seat == len(seats):
            return 0
        ways = [(0, [("hand", hand)]) for at, hand in pairs if at == seat]
        ways += [(1, [("holder", pair[0]), ("signer", pair[1])]) for pair in news
                 if fits(house, paper, seats[seat], pair + (day,))]
        found = []
        for many, nodes in ways:
            if not used.intersection(nodes):
                rest = fewest(seat + 1, used.union(nodes))
                found += [many + rest] if rest is not None else []
        return min(found, default=None)

    return fewest(0, frozenset())
