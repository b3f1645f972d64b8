"""What runs and merge plans lead to, and what is lost. Only the checker uses this file.

Counters are dicts of names and counts from 1 on.
"""


def after_run(capacity, counters, name, times):
    """Return the counters after so many arrivals of the name, and how many reductions take place."""
    if name in counters or len(counters) < capacity:
        return {**counters, name: counters.get(name, 0) + times}, 0
    falls = min([times] + list(counters.values()))
    left = {item: count - falls for item, count in counters.items() if count > falls}
    # The reductions end when a counter is free; the name takes it with the arrivals that remain.
    if times > falls:
        left[name] = times - falls
    return left, falls


def after_runs(capacity, counters, runs):
    """Return the counters after the runs, and how many reductions take place."""
    falls = 0
    for name, times in runs:
        counters, more = after_run(capacity, counters, name, times)
        falls += more
    return counters, falls


def sums_of(runs):
    """Return the sum of the times of each name, a dict."""
    sums = {}
    for name, times in runs:
        sums[name] = sums.get(name, 0) + times
    return sums


def after_merge(capacity, one, other):
    """Return the counters of both merged."""
    sums = sums_of(list(one.items()) + list(other.items()))
    behind = sorted(sums.values(), reverse=True)[capacity:]
    lower = behind[0] if behind else 0
    return {name: count - lower for name, count in sums.items() if count > lower}


def after_plan(capacity, plan):
    """Return the counters to which the merge plan leads."""
    counters = {}
    for order in plan:
        single, _ = after_runs(capacity, {}, order)
        counters = after_merge(capacity, counters, single)
    return counters


def lost_units(start, arrivals, end):
    """Return the loss of each name that occurs, a dict."""
    return sums_of(start + arrivals + tuple([(name, -count) for name, count in end]))


def late_change_of(capacity, start, order, index, name):
    """Return what becomes of the last counters if one arrival of the name is put before the run at the index."""
    middle, _ = after_runs(capacity, dict(start), order[:index])
    before, _ = after_runs(capacity, middle, order[index:])
    after, _ = after_runs(capacity, middle, ((name, 1),) + order[index:])
    for item, count in after.items():
        if count > before.get(item, 0):
            return ("more", item)
    return ("less",)
