"""Whether something is a row of leaves."""

from rankseals.houses import is_rising
from rankseals.leaves import is_side, ways_on
from rankseals.words import is_number


def is_row(house, paper, holder, signer, day, thing):
    """Whether thing is a row for the holder and the signer, the shortest or not, no leave twice."""
    if is_side(paper, holder) or is_side(paper, signer) or not are_unlike_numbers(thing):
        return False
    # A ring of leaves leads back to the holder too, but is no row of one person.
    if holder == signer:
        return thing == []
    ways = {number: (giver, taker) for number, giver, taker in ways_on(house, paper, day)}
    return last_taker(ways, holder, thing) == signer


def are_unlike_numbers(thing):
    if not isinstance(thing, list) or not all([is_number(number) for number in thing]):
        return False
    return is_rising(sorted(thing))


def last_taker(ways, holder, numbers):
    """Who signs for the holder by these ways, one behind the other; None where they are no chain."""
    person = holder
    for number in numbers:
        if number not in ways:
            return None
        giver, taker = ways[number]
        if giver != person:
            return None
        person = taker
    return person
