"""What the document says of true counts, merging and slots, in single steps or by its words."""

import functools
import itertools

from tests.reference import all_outcomes, loss_dict


def merged_counts(capacity, one, other):
    """Return the counts of both merged (point 19)."""
    sums = {}
    for name, count in one + other:
        sums[name] = sums.get(name, 0) + count
    ranked = sorted(sums.values(), reverse=True)
    lower = ranked[capacity] if len(ranked) > capacity else 0
    return tuple((name, sums[name] - lower) for name in sorted(sums) if sums[name] > lower)


@functools.lru_cache(maxsize=None)
def all_ends(capacity, arrivals):
    """Return the set of the ends of all orders from the empty summary."""
    return frozenset(all_outcomes(capacity, (), arrivals))


def all_parts(arrivals):
    """Return all pairs of parts, neither of them empty, into which the arrivals can be cut."""
    names = [name for name, _ in arrivals]
    pairs = []
    for taken in itertools.product(*[range(count + 1) for _, count in arrivals]):
        one = tuple((name, count) for name, count in zip(names, taken) if count)
        other = tuple((name, all_of - count) for (name, all_of), count in zip(arrivals, taken) if all_of > count)
        if one and other:
            pairs.append((one, other))
    return pairs


@functools.lru_cache(maxsize=None)
def all_merged(capacity, arrivals, from_the_left):
    """Return the set of the ends of all merge plans of the arrivals, or of all groupings."""
    found = set(all_ends(capacity, arrivals))
    for one, other in all_parts(arrivals):
        first = all_merged(capacity, one, from_the_left)
        second = all_ends(capacity, other) if from_the_left else all_merged(capacity, other, False)
        found |= {merged_counts(capacity, row, column) for row in first for column in second}
    return frozenset(found)


def plan_reached(capacity, arrivals, end):
    """Return whether the statements of point 21 hold for some d, by trying each one."""
    lost = list(loss_dict((), arrivals, end).values())
    units = sum(lost)
    return any(
        all(0 <= loss <= depth for loss in lost) and depth * (capacity + 1) <= units <= 2 * capacity * depth
        for depth in range(max(units, 0) + 1)
    )


def first_merge_obstacle(capacity, arrivals, end):
    """Return the first tuple of the interface that applies, by trying each d; None if none does."""
    lost = loss_dict((), arrivals, end)
    gains = [name for name in lost if lost[name] < 0]
    if gains:
        return ("gain", min(gains))
    units = sum(lost.values())
    least = next(
        depth for depth in range(units + 1)
        if all(loss <= depth for loss in lost.values()) and units <= 2 * capacity * depth
    )
    greatest = max(depth for depth in range(units + 1) if units >= depth * (capacity + 1))
    return ("range", least, greatest) if least > greatest else None


def replaced_once(slots, counts, name):
    """Return the counts of the slots after a single arrival (point 24)."""
    held = dict(counts)
    if name in held:
        held[name] += 1
    elif len(held) < slots:
        held[name] = 1
    else:
        least = min(held.values())
        gone = min(item for item in held if held[item] == least)
        del held[gone]
        held[name] = least + 1
    return tuple(sorted(held.items()))


def replaced_singly(slots, counts, order):
    """Return the counts of the slots after the order, arrival by arrival."""
    for name, times in order:
        for _ in range(times):
            counts = replaced_once(slots, counts, name)
    return counts


def above(slots, counts):
    """Return the counts of the summary above the least count of the slots (point 24)."""
    least = min(count for _, count in counts) if len(counts) == slots else 0
    return tuple((name, count - least) for name, count in counts if count > least)


def spread(total, parts, most):
    """Return all tuples of so many numbers from 0 to the most with this sum."""
    if parts == 0:
        return [()] if total == 0 else []
    return [(first, *rest) for first in range(min(total, most) + 1) for rest in spread(total - first, parts - 1, most)]


def fitting_counts(capacity, end, falls, names):
    """Return all true counts of these names that fit the end with so many reductions (point 22)."""
    held = dict(end)
    names = sorted(set(names) | set(held))
    rows = []
    for lost in spread(falls * (capacity + 1), len(names), falls):
        rows.append({name: held.get(name, 0) + loss for name, loss in zip(names, lost)})
    return [tuple((name, count) for name, count in row.items() if count) for row in rows]
