"""What can happen over all orders of given arrivals from the empty summary.

With d reductions a name loses at most d of its arrivals, all names together
lose d (k + 1), and all but k names lose all. Each such choice of losses comes
about. So the names with the greatest counts are the ones that may keep some.
"""

from tallyplans.arguments import check_name, check_number
from tallyplans.counts import check_counts
from tallyplans.outcomes import find_order
from tallyplans.summaries import Summary, check_capacity, summary_of


def check_arrivals(capacity, arrivals):
    """Raise the first error of the arguments that all functions of this module share."""
    check_capacity(capacity)
    check_counts(arrivals)


def greatest_first(pairs):
    """Return the list of the pairs from the greatest count down."""
    return sorted(pairs, key=lambda pair: (-pair[1], pair[0]))


def sum_behind(pairs, place):
    """Return the sum of the counts from a place on."""
    return sum([count for _, count in pairs[place:]])


def least_depth(pairs, keepers, lost, width):
    """Return the least number of columns of this width that can hold what must be lost.

    This is what a further name loses and all counts but those of the keepers, the first pairs.
    """
    longest = max([lost] + [count for _, count in pairs[keepers:]])
    units = lost + sum_behind(pairs, keepers)
    return max(longest, (units + width - 1) // width)


def greatest_depth(pairs, lost, width):
    """Return the greatest number of columns of this width that the counts and what a further name loses can fill.

    Each name is in a column at most once. If the names of the greatest counts are
    in every column, the others must fill the places that these leave.
    """
    return min([(lost + sum_behind(pairs, place)) // (width - place) for place in range(width)])


def kept_counts(pairs, keepers, lost, depth):
    """Return the counts that are left, a dict, if the pairs lose so many units in so many columns."""
    units = lost - sum_behind(pairs, keepers)
    kept = {}
    for name, count in pairs[:keepers]:
        taken = min(count, depth, units)
        units -= taken
        if taken < count:
            kept[name] = count - taken
    return kept


def order_to(capacity, arrivals, counters):
    """Return an order of the arrivals that leads to the counters of a dict."""
    return find_order(Summary(capacity), arrivals, summary_of(capacity, counters))


def reduction_range(capacity, arrivals):
    """Return the least and the greatest number of reductions over all orders of the arrivals."""
    check_arrivals(capacity, arrivals)
    pairs = greatest_first(arrivals)
    width = capacity + 1
    return (least_depth(pairs, capacity, 0, width), greatest_depth(pairs, 0, width))


def order_with(capacity, arrivals, reductions):
    """Return an order of the arrivals with so many reductions, None if there is none."""
    least, greatest = reduction_range(capacity, arrivals)
    check_number(reductions, 0)
    if not least <= reductions <= greatest:
        return None
    units = reductions * (capacity + 1)
    return order_to(capacity, arrivals, kept_counts(greatest_first(arrivals), capacity, units, reductions))


def parted(arrivals, name):
    """Return the count of the name and the pairs of the other names from the greatest count down."""
    others = [pair for pair in arrivals if pair[0] != name]
    return dict(arrivals).get(name, 0), greatest_first(others)


def end_counters(capacity, arrivals, name, count):
    """Return counters, a dict, in which the name has this count and to which an order leads, None if none does."""
    arrived, others = parted(arrivals, name)
    lost = arrived - count
    if lost < 0:
        return None
    width = capacity + 1
    keepers = capacity if count == 0 else capacity - 1
    depth = least_depth(others, keepers, lost, width)
    if depth > greatest_depth(others, lost, width):
        return None
    counters = kept_counts(others, keepers, depth * width - lost, depth)
    if count > 0:
        counters[name] = count
    return counters


def check_ending(capacity, arrivals, name, count):
    """Raise the first error of the arguments of can_end."""
    check_arrivals(capacity, arrivals)
    check_name(name)
    check_number(count, 0)


def can_end(capacity, arrivals, name, count):
    """Return whether the name can end with this count."""
    check_ending(capacity, arrivals, name, count)
    return end_counters(capacity, arrivals, name, count) is not None


def order_for(capacity, arrivals, name, count):
    """Return an order of the arrivals after which the name has this count, None if there is none."""
    check_ending(capacity, arrivals, name, count)
    counters = end_counters(capacity, arrivals, name, count)
    if counters is None:
        return None
    return order_to(capacity, arrivals, counters)


def counter_range(capacity, arrivals, name):
    """Return the least and the greatest count from 1 on with which the name can end, None if there is none.

    In a number of columns the name can lose whatever is between two bounds, and
    both bounds rise with this number. So its least and its greatest value decide.
    """
    arrived, others = parted(arrivals, name)
    if arrived == 0:
        return None
    keepers = capacity - 1
    width = capacity + 1
    least = least_depth(others, keepers, 0, width)
    greatest = min(greatest_depth(others, 0, capacity), greatest_depth(others, arrived - 1, width))
    if least > greatest:
        return None
    most = min(greatest, greatest * width - sum_behind(others, keepers), arrived - 1)
    fewest = max(0, least * width - sum([min(count, least) for _, count in others]))
    return (arrived - most, arrived - fewest)


def count_range(capacity, arrivals, name):
    """Return the least and the greatest count with which the name can end."""
    check_arrivals(capacity, arrivals)
    check_name(name)
    counts = counter_range(capacity, arrivals, name)
    if counts is None:
        return (0, 0)
    if end_counters(capacity, arrivals, name, 0) is not None:
        return (0, counts[1])
    return counts
