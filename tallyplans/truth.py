"""What a summary tells of the true counts behind it, if it came about from the empty one by so many arrivals.

With d reductions the true count of a name is from 0 to d more than its count in
the summary, and the true counts of all names add up to the number of arrivals.
"""

from tallyplans.arguments import check_number
from tallyplans.counts import check_counts
from tallyplans.errors import InvalidSize
from tallyplans.names import is_integer
from tallyplans.outcomes import loss_pairs
from tallyplans.summaries import Summary, check_summary


def reduction_count(summary, size):
    """Return the number of reductions that took place."""
    check_summary(summary)
    if not is_integer(size):
        raise InvalidSize(size)
    falls, rest = divmod(size - summary.kept(), summary.capacity + 1)
    if falls < 0 or rest != 0:
        raise InvalidSize(size)
    return falls


def fits(summary, size, counts):
    """Return whether these true counts fit."""
    falls = reduction_count(summary, size)
    check_counts(counts)
    lost = [loss for _, loss in loss_pairs(Summary(summary.capacity), counts, summary)]
    # The losses add up to all places of the columns exactly if the counts add up to the size.
    return all([0 <= loss <= falls for loss in lost]) and sum(lost) == falls * (summary.capacity + 1)


def true_range(summary, size, name):
    """Return the least and the greatest true count of the name."""
    falls = reduction_count(summary, size)
    least = summary.tally(name)
    return (least, least + falls)


def surely_more(summary, size, one, other):
    """Return whether it is sure that the true count of the one name is greater than that of the other one."""
    falls = reduction_count(summary, size)
    # A name that stands for both is never greater than itself.
    return summary.tally(one) > summary.tally(other) + falls


def most_ahead(summary, size, name):
    """Return the greatest number of names that can have a greater true count than the name."""
    falls = reduction_count(summary, size)
    goal = summary.tally(name) + 1
    missing = [max(0, goal - count) for item, count in summary.counts if item != name]
    near = [units for units in missing if units <= falls]
    if goal > falls:
        return len(near)
    # The names without a counter share what the names with counters do not need.
    return len(near) + (falls * (summary.capacity + 1) - sum(near)) // goal


def surely_among(summary, size, name, number):
    """Return whether it is sure that fewer names than the number have a greater true count than the name."""
    most = most_ahead(summary, size, name)
    check_number(number, 1)
    return most < number
