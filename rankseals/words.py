"""What a NAME is, and what a number is."""

MOST_LETTERS = 8


def is_name(thing):
    """Whether thing is a NAME: a text of 1 to 8 letters from a to z."""
    if not isinstance(thing, str) or not 1 <= len(thing) <= MOST_LETTERS:
        return False
    # Python's own tests for letters let letters of other tongues by.
    return all(["a" <= sign <= "z" for sign in thing])


def is_number(thing):
    """Whether thing is a whole number."""
    # To Python True and False are whole numbers; here they are none.
    return isinstance(thing, int) and not isinstance(thing, bool)
