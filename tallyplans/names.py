"""Integers, names and the pairs of both that counts and orders consist of."""

LONGEST_NAME = 8


def is_integer(thing):
    """Return whether any value is an integer: an int other than True and False."""
    return isinstance(thing, int) and not isinstance(thing, bool)


def is_integer_from(thing, least):
    """Return whether any value is an integer from the least one on."""
    return is_integer(thing) and thing >= least


def is_name(thing):
    """Return whether any value is a name."""
    if not isinstance(thing, str) or len(thing) > LONGEST_NAME:
        return False
    # Letters of other alphabets are letters for isalpha and islower, too.
    return thing.isascii() and thing.isalpha() and thing.islower()


def is_pair(thing):
    """Return whether any value is a pair of a name and an integer from 1 on."""
    if not isinstance(thing, tuple) or len(thing) != 2:
        return False
    name, number = thing
    return is_name(name) and is_integer_from(number, 1)
