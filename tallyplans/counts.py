"""Counts: ascending pairs of a name and how often it occurs."""

from tallyplans.arguments import check_name
from tallyplans.digits import format_number
from tallyplans.errors import InvalidCounts, TooManyNames
from tallyplans.limits import MAX_NAMES
from tallyplans.names import is_pair


def good_pairs(things, most):
    """Return how many things of a tuple, from the front, are counts of at most so many pairs."""
    before = ""
    for index, thing in enumerate(things):
        if index == most or not is_pair(thing) or thing[0] <= before:
            return index
        before = thing[0]
    return len(things)


def check_counts(thing):
    """Raise InvalidCounts if any value is not counts."""
    if not isinstance(thing, tuple):
        raise InvalidCounts(None)
    good = good_pairs(thing, MAX_NAMES)
    if good < len(thing):
        raise InvalidCounts(good)


def is_counts(thing):
    """Return whether any value is counts."""
    return isinstance(thing, tuple) and good_pairs(thing, MAX_NAMES) == len(thing)


def total(counts):
    """Return the sum of all counts."""
    check_counts(counts)
    return sum([count for _, count in counts])


def count_of(counts, name):
    """Return the count of the name, 0 if it does not occur."""
    check_counts(counts)
    check_name(name)
    for item, count in counts:
        if item == name:
            return count
    return 0


def summed(pairs):
    """Return the ascending tuple of the pairs in which each name has the sum of its numbers."""
    sums = {}
    for name, number in pairs:
        sums[name] = sums.get(name, 0) + number
    return tuple(sorted(sums.items()))


def added(one, other):
    """Return the counts whose count of each name is the sum of both counts."""
    check_counts(one)
    check_counts(other)
    sums = summed(one + other)
    if len(sums) > MAX_NAMES:
        raise TooManyNames(len(sums))
    return sums


def counts_text(pairs):
    """Return the text of the pairs of a name and a count."""
    if not pairs:
        return "-"
    return " ".join([name + ":" + format_number(count) for name, count in pairs])
