"""What a house is, and the empty one.

Each check looks at the kinds first and compares afterwards, so that things of
any kind may be asked about.
"""

from rankseals.words import is_name, is_number

MOST_PARTS = 8
MOST_RANKS = 20
MOST_LEAVES = 16
MOST_RULES = 10
MOST_SEATS = 6
LOWEST_RANK = 1
HIGHEST_RANK = 9


def empty_house():
    """The house without parts, ranks, leaves and rules."""
    return ((), (), (), ())


def is_house(thing):
    """Whether thing is a house: a tuple (parts, ranks, leaves, rules)."""
    if not is_tuple_of(thing, 4):
        return False
    parts, ranks, leaves, rules = thing
    if not are_parts(parts):
        return False
    names = [name for name, within in parts]
    return are_ranks(ranks, names) and are_leaves(leaves, names) and are_rules(rules, names)


def are_parts(thing):
    if not are_tuples_of(thing, 2, MOST_PARTS):
        return False
    names = [name for name, within in thing]
    if not all([is_name(name) for name in names]) or not is_rising(names):
        return False
    if not all([within == "" or within in names for name, within in thing]):
        return False
    outer = {name: within for name, within in thing}
    return all([comes_to_an_end(outer, name) for name in names])


def comes_to_an_end(outer, name):
    """Whether going from within to within, from this part on, comes to the empty text."""
    # A way that comes to an end passes each part once at most.
    for step in range(len(outer)):
        name = outer[name]
        if name == "":
            return True
    return False


def are_ranks(thing, names):
    if not are_tuples_of(thing, 6, MOST_RANKS):
        return False
    return all([is_rank_row(row, names) for row in thing]) and is_rising([row[0] for row in thing])


def is_rank_row(row, names):
    number, person, rank, part, first, last = row
    if not is_from_nought(number) or not is_name(person) or not is_rank(rank):
        return False
    return part in names and are_days(first, last)


def are_leaves(thing, names):
    if not are_tuples_of(thing, 7, MOST_LEAVES):
        return False
    return all([is_leave_row(row, names) for row in thing]) and is_rising([row[0] for row in thing])


def is_leave_row(row, names):
    number, giver, taker, part, first, last, most = row
    if not is_from_nought(number) or not is_from_nought(most):
        return False
    if not is_name(giver) or not is_name(taker) or giver == taker:
        return False
    return part in names and are_days(first, last)


def are_rules(thing, names):
    if not are_tuples_of(thing, 3, MOST_RULES):
        return False
    if not all([is_rule_row(row, names) for row in thing]):
        return False
    return is_rising([(part, bound) for part, bound, seats in thing])


def is_rule_row(row, names):
    part, bound, seats = row
    if part not in names or not is_from_nought(bound):
        return False
    if not are_tuples_of(seats, 2, MOST_SEATS):
        return False
    return all([is_rank(rank) and (where == "" or where in names) for rank, where in seats])


def is_tuple_of(thing, many):
    """Whether thing is a tuple of just so many things."""
    return isinstance(thing, tuple) and len(thing) == many


def are_tuples_of(thing, many, most):
    """Whether thing is a tuple of at most so many tuples, each of just so many things."""
    if not isinstance(thing, tuple) or len(thing) > most:
        return False
    return all([is_tuple_of(row, many) for row in thing])


def is_rising(keys):
    """Whether each key is above the one ahead of it; so none stands twice."""
    return all([low < high for low, high in zip(keys, keys[1:])])


def is_from_nought(thing):
    return is_number(thing) and thing >= 0


def is_rank(thing):
    return is_number(thing) and LOWEST_RANK <= thing <= HIGHEST_RANK


def are_days(first, last):
    return is_from_nought(first) and is_from_nought(last) and first <= last
