"""Merge plans: which summaries come about if parts of the arrivals are summarised separately and merged."""

from tallyplans.columns import blocks_of
from tallyplans.counts import check_counts, summed
from tallyplans.errors import InvalidPlan
from tallyplans.limits import MAX_NAMES, MAX_ORDERS
from tallyplans.orders import is_order
from tallyplans.outcomes import loss_pairs
from tallyplans.summaries import Summary, check_capacity, check_partner


def good_orders(things):
    """Return how many things of a tuple, from the front, are a merge plan."""
    names = {}
    for index, thing in enumerate(things):
        if index == MAX_ORDERS or not is_order(thing):
            return index
        for name, _ in thing:
            names[name] = True
        if len(names) > MAX_NAMES:
            return index
    return len(things)


def check_plan(thing):
    """Raise InvalidPlan if any value is not a merge plan."""
    if not isinstance(thing, tuple):
        raise InvalidPlan(None)
    good = good_orders(thing)
    if good < len(thing):
        raise InvalidPlan(good)


def is_plan(thing):
    """Return whether any value is a merge plan."""
    return isinstance(thing, tuple) and good_orders(thing) == len(thing)


def plan_result(capacity, plan):
    """Return the summary to which the merge plan leads."""
    check_capacity(capacity)
    check_plan(plan)
    result = Summary(capacity)
    for order in plan:
        result = result.merged(Summary(capacity).play(order))
    return result


def plan_arrivals(plan):
    """Return the arrivals of the merge plan, counts."""
    check_plan(plan)
    return summed([run for order in plan for run in order])


def check_merge(capacity, arrivals, end):
    """Raise the first error of the arguments of merge_obstacle."""
    check_capacity(capacity)
    check_counts(arrivals)
    check_partner(capacity, end)


def depth_range(capacity, lost):
    """Return the least and the greatest depth of all merges together that the losses, a list, allow.

    A merge of depth c takes c from at least k + 1 names and at most c from at most
    2 k names; a reduction does the same with c = 1. If the first number is greater
    than the second one, no depth fits.
    """
    units = sum(lost)
    least = (units + 2 * capacity - 1) // (2 * capacity)
    return (max([least] + lost), units // (capacity + 1))


def merge_obstacle(capacity, arrivals, end):
    """Return why no merge plan with these arrivals leads to the end, None if one does."""
    check_merge(capacity, arrivals, end)
    pairs = loss_pairs(Summary(capacity), arrivals, end)
    for name, loss in pairs:
        if loss < 0:
            return ("gain", name)
    least, greatest = depth_range(capacity, [loss for _, loss in pairs])
    if least > greatest:
        return ("range", least, greatest)
    return None


def mergeable(capacity, arrivals, end):
    """Return whether some merge plan with these arrivals leads to the end."""
    return merge_obstacle(capacity, arrivals, end) is None


def find_plan(capacity, arrivals, end):
    """Return a merge plan with these arrivals that leads to the end, None if there is none."""
    if merge_obstacle(capacity, arrivals, end) is not None:
        return None
    shares = dict(loss_pairs(Summary(capacity), arrivals, end))
    depth, _ = depth_range(capacity, list(shares.values()))
    orders = []
    # Laid out in rows as long as the depth, the losses fill each column with k + 1 to 2 k names.
    for length, names in blocks_of(shares, depth):
        runs = tuple([(name, length) for name in names])
        # Merged, these two lose all that they hold, so the next block begins with the empty summary again.
        orders += [runs[:capacity], runs[capacity:]]
    if end.counts:
        orders.append(end.counts)
    return tuple(orders)
