"""Paths without a common node, as many as can be, and the nodes that cut them all.

links gives for a node the list of those to which a path may go from it; a path
leads from one of the starts to one of the ends, which have no links. Paths are
kept as a dict, called after: for each node of theirs but the last, the next one.

A spot is a pair (node, whether it's being left). To a node that lies on a path
another may come, but it may leave it only backward along that path, whose
beginning is then led on elsewhere. So a search over spots finds one path more
wherever there is one.
"""


def most_paths(links, starts, ends, after):
    """A pair (after, cut): the most paths, begun with those handed in, and as many nodes that cut all."""
    came = spots_reached(links, starts, after)
    free = ends_reached(ends, came)
    while free:
        after = led_on(after, came, free[0])
        came = spots_reached(links, starts, after)
        free = ends_reached(ends, came)
    return after, cut_of(came)


def spots_reached(links, starts, after):
    """For each spot that the search comes to the one from which it came, None for the starts."""
    before = {later: node for node, later in after.items()}
    came = {(start, False): None for start in starts}
    newest = list(came)
    while newest:
        found = []
        for spot in newest:
            for other in spots_behind(links, after, before, spot):
                if other not in came:
                    came[other] = spot
                    found.append(other)
        newest = found
    return came


def spots_behind(links, after, before, spot):
    """The list of the spots to which a search may go from this one."""
    node, is_left = spot
    is_used = node in after or node in before
    if is_left:
        # One who leaves a used node came back along its path, and may go back farther.
        back = [(node, False)] if is_used else []
        return [(other, False) for other in links.get(node, [])] + back
    if not is_used:
        return [(node, True)]
    return [(before[node], True)] if node in before else []


def ends_reached(ends, came):
    return [end for end in ends if (end, True) in came]


def led_on(after, came, end):
    """The paths with one more, which the search found to this end."""
    steps = []
    spot = (end, True)
    while came[spot] is not None:
        steps.append((came[spot], spot))
        spot = came[spot]
    longer = dict(after)
    for (node, is_left), (other, is_other_left) in reversed(steps):
        if node == other:
            continue
        if is_left:
            longer[node] = other
        else:
            del longer[other]
    return longer


def cut_of(came):
    """The nodes that the search came to and could not leave."""
    return [node for node, is_left in came if (node, True) not in came]
