"""The fewest further hands that a paper needs, and from whom.

Besides the paths from seats to hands there are here those of new hands, from a
seat by a node ("holder", name) to a node ("signer", name). They are begun with
the paths of a greatest filling: a path more takes no hand out of them, so no
more new ones come than seats are left, and the cover of that filling shows it.
"""

from rankseals.filling import cover_of, links_to_hands, named, nodes_of, paths_to_hands
from rankseals.fitting import seats_for
from rankseals.news import free_holders, free_signers
from rankseals.paths import most_paths


def more_for(house, paper, hands, day):
    """The fewest new hands with which all seats are filled; or what shows that none do."""
    seats = seats_for(house, paper)
    links = links_to_hands(house, paper, seats, hands)
    after, cut = paths_to_hands(links, seats, hands)
    cover = cover_of(cut)
    holders = links_to_holders(house, hands, seats, day)
    signers = links_to_signers(house, paper, hands, holders, day)
    starts = nodes_of("seat", seats)
    ends = nodes_of("hand", hands) + all_behind(signers)
    after, cut = most_paths(joined(links, holders, signers), starts, ends, after)
    if not all([start in after for start in starts]):
        return "none", named(cut, "seat"), named(cut, "hand"), named(cut, "holder"), named(cut, "signer")
    news = sorted([(node[1], later[1]) for node, later in after.items() if node[0] == "holder"])
    return "more", news, filling_of(after, starts, len(hands), news), cover


def how_many(told):
    """How many new hands are told to be needed; None where none do."""
    return len(told[1]) if told[0] == "more" else None


def links_to_holders(house, hands, seats, day):
    """For each seat's node the list of the nodes of the new holders who have its rank."""
    return {
        ("seat", at): [("holder", person) for person in free_holders(house, hands, seat, day)]
        for at, seat in enumerate(seats)
    }


def links_to_signers(house, paper, hands, holders, day):
    """For the node of each of these holders the list of the nodes of the new signers who have a row."""
    return {
        node: [("signer", person) for person in free_signers(house, paper, hands, node[1], day)]
        for node in all_behind(holders)
    }


def all_behind(links):
    """The rising list of the nodes to which these links go."""
    return sorted({later for node in links for later in links[node]})


def joined(hands, holders, signers):
    """The links of seats to hands and to holders, and those of holders to signers."""
    links = {seat: hands[seat] + holders[seat] for seat in hands}
    links.update(signers)
    return links


def filling_of(after, starts, many, news):
    """The filling of all seats by so many hands and behind them the news."""
    holders = [holder for holder, signer in news]
    filling = []
    for start in starts:
        kind, name = after[start]
        filling.append((start[1], name if kind == "hand" else many + holders.index(name)))
    return filling
