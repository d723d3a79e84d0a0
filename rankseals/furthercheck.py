"""Whether something shows which further hands a paper needs, and that no fewer do, or that none do."""

from rankseals.fillcheck import are_rising_places, is_cover, is_filling, shuts_hands
from rankseals.fitting import seats_for
from rankseals.houses import is_rising, is_tuple_of
from rankseals.leaves import row_of
from rankseals.news import free_holders, free_signers
from rankseals.words import is_name


def shows_more(house, paper, hands, day, thing):
    """Whether thing is such as more_for tells."""
    if is_tuple_of(thing, 4) and thing[0] == "more":
        return shows_news(house, paper, hands, day, thing)
    if is_tuple_of(thing, 5) and thing[0] == "none":
        return shows_none(house, paper, hands, day, thing)
    return False


def shows_news(house, paper, hands, day, thing):
    """Whether a tuple ("more", news, filling, cover) is so."""
    word, news, filling, cover = thing
    if not are_news(house, paper, hands, day, news):
        return False
    longer = hands + [(holder, signer, day) for holder, signer in news]
    if not is_filling(house, paper, longer, filling) or not is_cover(house, paper, hands, cover):
        return False
    many = len(seats_for(house, paper))
    return len(filling) == many and len(cover[0]) + len(cover[1]) == many - len(news)


def are_news(house, paper, hands, day, thing):
    """Whether thing is a rising list of new ones, of unlike holders and unlike signers."""
    if not isinstance(thing, list) or not all([is_pair_of_people(pair) for pair in thing]):
        return False
    # Pairs of unlike holders rise just where their holders do.
    if not is_rising([holder for holder, signer in thing]):
        return False
    if not is_rising(sorted([signer for holder, signer in thing])):
        return False
    return all([is_new(house, paper, hands, day, pair) for pair in thing])


def is_pair_of_people(thing):
    return is_tuple_of(thing, 2) and is_name(thing[0]) and is_name(thing[1])


def is_new(house, paper, hands, day, pair):
    """Whether a pair of people is a new one: neither is taken, and there is a row for them."""
    holder, signer = pair
    if holder in [hand[0] for hand in hands] or signer in [hand[1] for hand in hands]:
        return False
    return row_of(house, paper, holder, signer, day) is not None


def shows_none(house, paper, hands, day, thing):
    """Whether a tuple ("none", seats, hands, holders, signers) is so."""
    word, shut_seats, shut_hands, holders, signers = thing
    many = len(seats_for(house, paper))
    if not are_rising_places(shut_seats, many) or not are_rising_places(shut_hands, len(hands)):
        return False
    if not are_rising_people(holders) or not are_rising_people(signers):
        return False
    if len(shut_seats) + len(shut_hands) + len(holders) + len(signers) >= many:
        return False
    return (shuts_hands(house, paper, hands, (shut_seats, shut_hands))
            and shuts_news(house, paper, hands, day, (shut_seats, holders, signers)))


def are_rising_people(thing):
    return isinstance(thing, list) and all([is_name(person) for person in thing]) and is_rising(thing)


def shuts_news(house, paper, hands, day, shut):
    """Whether of each new one that may fill another seat the holder or the signer is among these."""
    shut_seats, holders, signers = shut
    others = [seat for at, seat in enumerate(seats_for(house, paper)) if at not in shut_seats]
    loose = [
        (holder, signer)
        for seat in others
        for holder in free_holders(house, hands, seat, day) if holder not in holders
        for signer in free_signers(house, paper, hands, holder, day) if signer not in signers
    ]
    return loose == []
