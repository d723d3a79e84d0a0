"""Whether something shows what the hands on a paper fill, and that no more can be filled."""

from rankseals.fitting import may_fill, seats_for
from rankseals.houses import is_rising, is_tuple_of
from rankseals.words import is_number


def shows_filled(house, paper, hands, thing):
    """Whether thing is a pair of a filling and a cover of as many numbers as it has pairs."""
    if not is_tuple_of(thing, 2):
        return False
    filling, cover = thing
    if not is_filling(house, paper, hands, filling) or not is_cover(house, paper, hands, cover):
        return False
    return len(filling) == len(cover[0]) + len(cover[1])


def is_filling(house, paper, hands, thing):
    """Whether thing is a rising list of pairs (seat, hand), unlike each, where each hand may fill its seat."""
    if not isinstance(thing, list) or not all([is_tuple_of(pair, 2) for pair in thing]):
        return False
    seats = seats_for(house, paper)
    # Pairs of unlike seats rise just where their seats do.
    if not are_rising_places([seat for seat, hand in thing], len(seats)):
        return False
    places = [hand for seat, hand in thing]
    if not are_places(places, len(hands)) or not is_rising(sorted(places)):
        return False
    return all([may_fill(house, paper, seats[seat], hands[hand]) for seat, hand in thing])


def is_cover(house, paper, hands, thing):
    """Whether thing is a pair (seats, hands) that shuts every hand out of every other seat."""
    if not is_tuple_of(thing, 2):
        return False
    seats = seats_for(house, paper)
    if not are_rising_places(thing[0], len(seats)) or not are_rising_places(thing[1], len(hands)):
        return False
    return shuts_hands(house, paper, hands, thing)


def shuts_hands(house, paper, hands, cover):
    """Whether each hand that may fill a seat that is not among these is among these."""
    others = [hand for number, hand in enumerate(hands) if number not in cover[1]]
    uncovered = [seat for at, seat in enumerate(seats_for(house, paper)) if at not in cover[0]]
    return not any([may_fill(house, paper, seat, hand) for seat in uncovered for hand in others])


def are_rising_places(thing, many):
    """Whether thing is a rising list of numbers of so many things, counted from 0."""
    return isinstance(thing, list) and are_places(thing, many) and is_rising(thing)


def are_places(things, many):
    return all([is_number(place) and 0 <= place < many for place in things])
