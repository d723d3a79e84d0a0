"""Houses and odd things that the tests share."""

# p lies within nothing; q and r within p; s within q; z stands by itself.
PARTS = (("p", ""), ("q", "p"), ("r", "p"), ("s", "q"), ("z", ""))

# One thing of each kind that may be asked about, none of them a NAME or a number from 0 on.
ODD_THINGS = (
    None, True, False, -1, "", " ", "A", "1", "\n", "\t", "toolonger",
    [], (), [0], (0,), ["p"], ("p",), [[]], ((),), [None], (None,), (True,), ((("p",),),),
)


def nest(depth, core):
    """A tuple in a list in a tuple .., so many deep."""
    for at in range(depth):
        core = (core,) if at % 2 else [core]
    return core


def letters(at):
    """A NAME of two letters for each number from 0 on, rising with it."""
    return chr(97 + at // 26) + chr(97 + at % 26)


def put(thing, path, value):
    """A copy of nested tuples with another value at a path of places."""
    if not path:
        return value
    at = path[0]
    return thing[:at] + (put(thing[at], path[1:], value),) + thing[at + 1:]


def look(thing, path):
    """What stands at a path of places."""
    for at in path:
        thing = thing[at]
    return thing


def paths(thing, path=()):
    """The paths to all that stands in nested tuples, the whole one first."""
    found = [path]
    if isinstance(thing, tuple):
        for at, inner in enumerate(thing):
            found += paths(inner, path + (at,))
    return found


def chain_house(many):
    """A house of one part with a chain of leaves from aa on, the last number given first."""
    leaves = tuple((at, letters(many - 1 - at), letters(many - at), "p", 5, 9, 100) for at in range(many))
    return ((("p", ""),), (), leaves, ())
