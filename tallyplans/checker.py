"""The checker: whether a certificate shows that a claim is true.

It stands on its own, so that a fault of the rest of the program cannot make it
accept what is false.
"""

from tallyplans.claimplays import after_plan, after_runs, late_change_of, lost_units, sums_of
from tallyplans.claimvalues import are_parts, is_merge_plan, is_sequence, is_width


def is_order_of(thing, arrivals):
    """Return whether any value is an order with these arrivals."""
    return is_sequence(thing) and sums_of(thing) == dict(arrivals)


def possible_holds(certificate, capacity, start, arrivals, end):
    """Return whether the certificate is an order of the arrivals that leads from the start to the end."""
    if not is_order_of(certificate, arrivals):
        return False
    counters, _ = after_runs(capacity, dict(start), certificate)
    return counters == dict(end)


def is_reason(thing, kinds, capacity):
    """Return whether any value is a tuple of a word of the table and of what the table says behind this word."""
    if not isinstance(thing, tuple) or not thing or not isinstance(thing[0], str):
        return False
    return thing[0] in kinds and are_parts(kinds[thing[0]], thing[1:], capacity)


REASONS = {
    "gain": ("name",), "sum": ("integer",), "few": ("name",), "many": ("name",), "columns": ("integer", "integer"),
}


def impossible_holds(certificate, capacity, start, arrivals, end):
    """Return whether the certificate is a true reason why no order leads from the start to the end."""
    if not is_reason(certificate, dict(REASONS), capacity):
        return False
    word = certificate[0]
    held = dict(start)
    lost = lost_units(start, arrivals, end)
    units = sum(list(lost.values()))
    depth, rest = divmod(units, capacity + 1)
    if word == "gain":
        return lost.get(certificate[1], 0) < 0
    if word == "sum":
        return rest != 0 and certificate[1] == units
    if rest != 0 or depth < 0:
        return False
    if word == "columns":
        return are_crowded(certificate[1], certificate[2], capacity, held, lost, depth)
    name = certificate[1]
    if word == "few":
        return lost.get(name, 0) < min(held.get(name, 0), depth)
    return lost.get(name, 0) > depth


def are_crowded(first, units, capacity, held, lost, depth):
    """Return whether so many first columns, no more than all, cannot hold the units that they must hold."""
    if not 1 <= first <= depth:
        return False
    found = sum([max(0, min(held.get(name, 0), first), loss - depth + first) for name, loss in lost.items()])
    return units == found and found > first * (capacity + 1)


def reductions_hold(certificate, capacity, arrivals, least, greatest):
    """Return whether the certificate is two orders with the least and the greatest number of reductions."""
    if not isinstance(certificate, tuple) or len(certificate) != 2:
        return False
    for order, number in zip(certificate, (least, greatest)):
        if not is_order_of(order, arrivals):
            return False
        _, falls = after_runs(capacity, {}, order)
        if falls != number:
            return False
    width = capacity + 1
    counts = sorted([count for _, count in arrivals], reverse=True)
    behind = counts[capacity:]
    if least != max(behind[:1] + [(sum(behind) + width - 1) // width]):
        return False
    # One more column could not be filled, as a name is in each column at most once.
    return sum([min(count, greatest + 1) for count in counts]) < (greatest + 1) * width


def ends_holds(certificate, capacity, arrivals, name, count):
    """Return whether the certificate is an order of the arrivals after which the name has this count."""
    if not is_order_of(certificate, arrivals):
        return False
    counters, _ = after_runs(capacity, {}, certificate)
    return counters.get(name, 0) == count


def true_counts_hold(certificate, capacity, end, size, counts):
    """Return whether the certificate is an order of these counts, as many as the size, that leads to the end."""
    if sum([count for _, count in counts]) != size:
        return False
    return possible_holds(certificate, capacity, (), counts, end)


def mergeable_holds(certificate, capacity, arrivals, end):
    """Return whether the certificate is a merge plan of the arrivals that leads to the end."""
    if not is_merge_plan(certificate):
        return False
    if sums_of([run for order in certificate for run in order]) != dict(arrivals):
        return False
    return after_plan(capacity, certificate) == dict(end)


MERGE_REASONS = {"gain": ("name",), "range": ("integer", "integer")}


def not_mergeable_holds(certificate, capacity, arrivals, end):
    """Return whether the certificate is a true reason why no merge plan of the arrivals leads to the end."""
    if not is_reason(certificate, dict(MERGE_REASONS), capacity):
        return False
    lost = lost_units((), arrivals, end)
    if certificate[0] == "gain":
        return lost.get(certificate[1], 0) < 0
    units = list(lost.values())
    if min([0] + units) < 0:
        return False
    least = max([0] + units + [(sum(units) + 2 * capacity - 1) // (2 * capacity)])
    greatest = sum(units) // (capacity + 1)
    return certificate == ("range", least, greatest) and least > greatest


def late_holds(certificate, capacity, start, order, index, name, change):
    """Return whether the change is what becomes of the last counters, and the certificate is None."""
    if certificate is not None or index > len(order):
        return False
    if not isinstance(change, tuple) or not all([isinstance(word, str) for word in change]):
        return False
    return change == late_change_of(capacity, start, order, index, name)


# The kinds of the parts of a claim behind its word and its capacity.
KINDS = {
    "possible": ("counters", "counts", "counters"),
    "impossible": ("counters", "counts", "counters"),
    "reductions": ("counts", "number", "number"),
    "ends": ("counts", "name", "number"),
    "true counts": ("counters", "number", "counts"),
    "mergeable": ("counts", "counters"),
    "not mergeable": ("counts", "counters"),
    "late": ("counters", "order", "number", "name", "any"),
}

HOLDS = {
    "possible": possible_holds,
    "impossible": impossible_holds,
    "reductions": reductions_hold,
    "ends": ends_holds,
    "true counts": true_counts_hold,
    "mergeable": mergeable_holds,
    "not mergeable": not_mergeable_holds,
    "late": late_holds,
}


def accepts(claim, certificate):
    """Return whether the claim has one of the forms and the certificate shows that it is true."""
    if not isinstance(claim, tuple) or len(claim) < 2:
        return False
    word, capacity = claim[:2]
    if not isinstance(word, str) or word not in KINDS or not is_width(capacity):
        return False
    parts = claim[2:]
    if not are_parts(KINDS[word], parts, capacity):
        return False
    holds = HOLDS[word]
    return holds(certificate, capacity, *parts)
