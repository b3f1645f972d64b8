"""Certificates: answers of the program as claims, each with what shows the checker that it is true."""

from tallyplans.late import late_change
from tallyplans.merging import find_plan, merge_obstacle
from tallyplans.outcomes import find_order, obstacle
from tallyplans.ranges import order_for, order_with, reduction_range
from tallyplans.summaries import Summary
from tallyplans.truth import fits


def certify_end(start, arrivals, end):
    """Return a claim that the end is possible or impossible, and its certificate."""
    reason = obstacle(start, arrivals, end)
    parts = (start.capacity, start.counts, arrivals, end.counts)
    if reason is None:
        return ("possible", *parts), find_order(start, arrivals, end)
    return ("impossible", *parts), reason


def certify_reductions(capacity, arrivals):
    """Return a claim of the least and the greatest number of reductions, and its certificate."""
    least, greatest = reduction_range(capacity, arrivals)
    orders = (order_with(capacity, arrivals, least), order_with(capacity, arrivals, greatest))
    return ("reductions", capacity, arrivals, least, greatest), orders


def certify_count(capacity, arrivals, name, count):
    """Return a claim that the name can end with this count, and its certificate; None if it cannot."""
    order = order_for(capacity, arrivals, name, count)
    if order is None:
        return None
    return ("ends", capacity, arrivals, name, count), order


def certify_truth(summary, size, counts):
    """Return a claim that the true counts fit, and its certificate; None if they do not fit."""
    if not fits(summary, size, counts):
        return None
    order = find_order(Summary(summary.capacity), counts, summary)
    return ("true counts", summary.capacity, summary.counts, size, counts), order


def certify_merge(capacity, arrivals, end):
    """Return a claim that the end is mergeable or not, and its certificate."""
    reason = merge_obstacle(capacity, arrivals, end)
    if reason is None:
        return ("mergeable", capacity, arrivals, end.counts), find_plan(capacity, arrivals, end)
    return ("not mergeable", capacity, arrivals, end.counts), reason


def certify_late(start, order, index, name):
    """Return a claim of what a late arrival changes, and None, its certificate."""
    change = late_change(start, order, index, name)
    return ("late", start.capacity, start.counts, order, index, name, change), None
