"""Which summaries come from given arrivals, and the orders that lead to them."""

from tallyplans.columns import lossy_runs
from tallyplans.counts import check_counts, summed
from tallyplans.orders import shortened
from tallyplans.summaries import check_partner, check_summary


def check_question(start, arrivals, end):
    """Raise the first error of the arguments that all functions of this module share."""
    check_summary(start)
    check_counts(arrivals)
    check_partner(start.capacity, end)


def loss_pairs(start, arrivals, end):
    """Return the ascending pairs of each name that occurs and its loss."""
    negative = tuple([(name, -count) for name, count in end.counts])
    return summed(start.counts + arrivals + negative)


def loss_rows(start, arrivals, end):
    """Return name, start count and loss of each name that occurs, ascending."""
    held = dict(start.counts)
    return [(name, held.get(name, 0), loss) for name, loss in loss_pairs(start, arrivals, end)]


def losses(start, arrivals, end):
    """Return the ascending pairs of a name and its loss, without losses of 0."""
    check_question(start, arrivals, end)
    return tuple([(name, loss) for name, loss in loss_pairs(start, arrivals, end) if loss != 0])


def loss_sum(rows):
    """Return the sum of the losses."""
    return sum([loss for _, _, loss in rows])


def least_units(rows, depth, first):
    """Return the least number of units that all names together lose in so many first columns."""
    return sum([max(0, min(held, first), loss - depth + first) for _, held, loss in rows])


def crowded_columns(rows, capacity, depth):
    """Return the obstacle of the least number of first columns that hold too few units, None if there is none."""
    ends = [held for _, held, _ in rows] + [held + depth - loss for _, held, loss in rows]
    for first in sorted(set(ends)):
        if 1 <= first <= depth:
            units = least_units(rows, depth, first)
            if units > first * (capacity + 1):
                return ("columns", first, units)
    return None


def obstacle_of(rows, capacity):
    """Return the first obstacle that applies to the rows, None if there is none."""
    for name, _, loss in rows:
        if loss < 0:
            return ("gain", name)
    depth, rest = divmod(loss_sum(rows), capacity + 1)
    if rest != 0:
        return ("sum", loss_sum(rows))
    for name, held, loss in rows:
        if loss < min(held, depth):
            return ("few", name)
    for name, _, loss in rows:
        if loss > depth:
            return ("many", name)
    return crowded_columns(rows, capacity, depth)


def obstacle(start, arrivals, end):
    """Return why no order of the arrivals leads from the start to the end, None if one does."""
    check_question(start, arrivals, end)
    return obstacle_of(loss_rows(start, arrivals, end), start.capacity)


def possible(start, arrivals, end):
    """Return whether some order of the arrivals leads from the start to the end."""
    return obstacle(start, arrivals, end) is None


def last_runs(arrivals, runs):
    """Return a run for each name of the arrivals that are not in the runs."""
    taken = tuple([(name, -times) for name, times in runs])
    return [(name, times) for name, times in summed(arrivals + taken) if times > 0]


def find_order(start, arrivals, end):
    """Return an order of the arrivals that leads from the start to the end, None if there is none."""
    check_question(start, arrivals, end)
    rows = loss_rows(start, arrivals, end)
    if obstacle_of(rows, start.capacity) is not None:
        return None
    runs = lossy_runs(start.capacity, rows, loss_sum(rows) // (start.capacity + 1))
    # What is never lost arrives last, when no reduction comes any more.
    return shortened(tuple(runs + last_runs(arrivals, runs)))
