"""Late arrivals: how one more arrival anywhere in an order changes the final summary."""

from tallyplans.arguments import check_index, check_name
from tallyplans.orders import check_order
from tallyplans.summaries import check_summary, played


def late_change(start, order, index, name):
    """Return what becomes of the final summary if one arrival of the name is inserted before the run at the index."""
    check_summary(start)
    check_order(order)
    check_index(index, len(order))
    check_name(name)
    before, _ = played(start, order)
    # The longer order may exceed the limits of orders, so it is not played as one.
    after, _ = played(start, order[:index] + ((name, 1),) + order[index:])
    for item, count in after.items():
        if count > before.get(item, 0):
            return ("more", item)
    return ("less",)
