"""What the document says, gone through in single arrivals or by its words. The tests compare the program with it."""

import itertools
import random


def arrived_once(capacity, counters, name):
    """Return the counters after a single arrival, and how many reductions took place (point 15)."""
    after = dict(counters)
    if name in after:
        after[name] += 1
        return tuple(sorted(after.items())), 0
    if len(after) < capacity:
        after[name] = 1
        return tuple(sorted(after.items())), 0
    return tuple((item, count - 1) for item, count in counters if count > 1), 1


def played_singly(capacity, counters, order):
    """Return the counters after the order, and how many reductions took place."""
    falls = 0
    for name, times in order:
        for _ in range(times):
            counters, fall = arrived_once(capacity, counters, name)
            falls += fall
    return counters, falls


def all_outcomes(capacity, start, arrivals):
    """Return a dict: for each end to which some order leads, the set of the numbers of reductions."""
    names = [name for name, _ in arrivals]
    states = {(tuple(count for _, count in arrivals), start): {0}}
    for _ in range(sum(count for _, count in arrivals)):
        later = {}
        for (left, counters), falls in states.items():
            for at, name in enumerate(names):
                if left[at]:
                    rest = left[:at] + (left[at] - 1,) + left[at + 1:]
                    after, fall = arrived_once(capacity, counters, name)
                    later.setdefault((rest, after), set()).update(many + fall for many in falls)
        states = later
    return {counters: falls for (_, counters), falls in states.items()}


def small_counts(names, most, pairs=12):
    """Return all counts of these names with no count greater than the most and at most so many pairs."""
    rows = []
    for numbers in itertools.product(range(most + 1), repeat=len(names)):
        counts = tuple((name, number) for name, number in zip(names, numbers) if number)
        if len(counts) <= pairs:
            rows.append(counts)
    return rows


def loss_dict(start, arrivals, end):
    """Return the loss of each name that occurs (point 17)."""
    found = {}
    for sign, counts in ((1, start), (1, arrivals), (-1, end)):
        for name, count in counts:
            found[name] = found.get(name, 0) + sign * count
    return found


def column_sum(held, lost, depth, first):
    """Return the sum of point 18 for so many first columns."""
    return sum(max(0, min(held.get(name, 0), first), lost[name] - depth + first) for name in lost)


def is_possible(capacity, start, arrivals, end):
    """Return whether the statements of point 18 hold for some d, by trying each v."""
    held, lost = dict(start), loss_dict(start, arrivals, end)
    depth, rest = divmod(sum(lost.values()), capacity + 1)
    if rest or depth < 0 or any(loss < 0 for loss in lost.values()):
        return False
    if not all(min(held.get(name, 0), depth) <= lost[name] <= depth for name in lost):
        return False
    return all(column_sum(held, lost, depth, first) <= first * (capacity + 1) for first in range(depth + 1))


def first_obstacle(capacity, start, arrivals, end):
    """Return the first tuple of the interface that applies, None if none does."""
    held, lost = dict(start), loss_dict(start, arrivals, end)
    units = sum(lost.values())
    depth, rest = divmod(units, capacity + 1)
    gains = [name for name in lost if lost[name] < 0]
    if gains:
        return ("gain", min(gains))
    if rest:
        return ("sum", units)
    few = [name for name in lost if lost[name] < min(held.get(name, 0), depth)]
    if few:
        return ("few", min(few))
    many = [name for name in lost if lost[name] > depth]
    if many:
        return ("many", min(many))
    named = [name for name in lost if lost[name] or name in held]
    places = [held.get(name, 0) for name in named] + [held.get(name, 0) + depth - lost[name] for name in named]
    crowded = [first for first in places if 1 <= first <= depth]
    crowded = [first for first in crowded if column_sum(held, lost, depth, first) > first * (capacity + 1)]
    if crowded:
        return ("columns", min(crowded), column_sum(held, lost, depth, min(crowded)))
    return None


def scaled(pairs, factor):
    """Return the pairs with each number multiplied."""
    return tuple((name, number * factor) for name, number in pairs)


def random_counts(random_source, names, most):
    """Return counts of these names, each from 1 to the most."""
    return tuple((name, random_source.randint(1, most)) for name in sorted(names))


def random_order(random_source, names, runs, most):
    """Return an order of at most so many runs."""
    return tuple((random_source.choice(names), random_source.randint(1, most)) for _ in range(runs))


def random_columns(random_source, capacity, most):
    """Return start, arrivals and end that pass all tests of an obstacle but the last one.

    The start is full, and its names do not arrive unless they lose more than their counters.
    """
    names = [letter * random_source.randint(1, 8) for letter in "abcdefghijklmnopqrst"]
    random_source.shuffle(names)
    start = dict(random_counts(random_source, names[:capacity], most))
    depth = random_source.randint(1, 2 * most)
    lost = {name: min(count, depth) for name, count in start.items()}
    units = depth * (capacity + 1) - sum(lost.values())
    for name in random_source.sample(names, 12):
        more = min(units, depth - lost.get(name, 0))
        more = random_source.choice([more, random_source.randint(0, more)])
        lost[name] = lost.get(name, 0) + more
        units -= more
    if units:
        return None
    arrivals = {name: lost[name] - start.get(name, 0) for name in lost if lost[name] > start.get(name, 0)}
    end = {name: start[name] - depth for name in start if start[name] > depth}
    return tuple(tuple(sorted(counts.items())) for counts in (start, arrivals, end))


def seeded(seed):
    """Return a source of numbers that is the same in each run of the tests."""
    return random.Random(seed)


def possible_depths(capacity, arrivals, fixed=None):
    """Return the set of the numbers of reductions of orders from the empty summary, by points 17 and 18.

    `fixed` may be a pair of a name and the count with which it ends. Each set of
    names that keep a count is tried, with each number of reductions.
    """
    found = set()
    name, count = fixed or ("", 0)
    others = [item for item in dict(arrivals) if item != name]
    if count > dict(arrivals).get(name, 0):
        return found
    lost = dict(arrivals).get(name, 0) - count
    for depth in range(lost, sum(number for _, number in arrivals) // (capacity + 1) + 1):
        for many in range(min(len(others), capacity - (count > 0)) + 1):
            for keepers in itertools.combinations(others, many):
                all_lost = [number for item, number in arrivals if item != name and item not in keepers]
                least = lost + sum(all_lost)
                most = least + sum(min(dict(arrivals)[item], depth) for item in keepers)
                if max(all_lost, default=0) <= depth and least <= depth * (capacity + 1) <= most:
                    found.add(depth)
    return found
