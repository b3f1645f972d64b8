"""Summaries: a fixed number of counters, and what arrivals and other summaries make of them."""

from tallyplans.arguments import check_run
from tallyplans.counts import count_of, counts_text, good_pairs, summed, total
from tallyplans.errors import CapacitiesDiffer, InvalidCapacity, InvalidSummary, NotASummary
from tallyplans.limits import MAX_CAPACITY
from tallyplans.names import is_integer_from
from tallyplans.orders import check_order


def is_capacity(thing):
    """Return whether any value is a capacity."""
    return is_integer_from(thing, 1) and thing <= MAX_CAPACITY


def check_capacity(thing):
    """Raise InvalidCapacity if any value is not a capacity."""
    if not is_capacity(thing):
        raise InvalidCapacity(thing)


def check_counters(thing, most):
    """Raise InvalidSummary if any value is not counts of at most so many pairs."""
    if not isinstance(thing, tuple):
        raise InvalidSummary(None)
    good = good_pairs(thing, most)
    if good < len(thing):
        raise InvalidSummary(good)


def let_arrive(counters, capacity, name, times):
    """Change the counters, a dict, by so many arrivals, and return how many reductions take place."""
    if name in counters or len(counters) < capacity:
        counters[name] = counters.get(name, 0) + times
        return 0
    # Behind the reduction that empties a counter the name takes the free place.
    fall = min(times, min(list(counters.values())))
    for item in list(counters):
        counters[item] -= fall
        if counters[item] == 0:
            del counters[item]
    if times > fall:
        counters[name] = times - fall
    return fall


class Summary:
    """A summary with a capacity and the counts of its counters; it never changes."""

    def __init__(self, capacity, counts=()):
        check_capacity(capacity)
        check_counters(counts, capacity)
        self.capacity = capacity
        self.counts = counts

    def __eq__(self, other):
        return isinstance(other, Summary) and self.capacity == other.capacity and self.counts == other.counts

    def __len__(self):
        return len(self.counts)

    def __str__(self):
        return str(counts_text(self.counts))

    def __repr__(self):
        return f"Summary({self.capacity}, '{counts_text(self.counts)}')"

    def tally(self, name):
        """Return the count of the name, 0 if it has no counter."""
        return count_of(self.counts, name)

    def kept(self):
        """Return the sum of all counts."""
        return total(self.counts)

    def is_full(self):
        """Return whether all counters are in use."""
        return len(self.counts) == self.capacity

    def arrive(self, name, times=1):
        """Return the summary after so many arrivals of the name."""
        check_run(name, times)
        counters, _ = played(self, ((name, times),))
        return summary_of(self.capacity, counters)

    def play(self, order):
        """Return the summary to which the order leads from this one."""
        check_order(order)
        counters, _ = played(self, order)
        return summary_of(self.capacity, counters)

    def reductions(self, order):
        """Return how many reductions take place in the order, from this summary."""
        check_order(order)
        _, falls = played(self, order)
        return falls

    def merged(self, other):
        """Return this summary merged with the other one."""
        check_partner(self.capacity, other)
        sums = summed(self.counts + other.counts)
        lower = place_count(sums, self.capacity)
        return Summary(self.capacity, tuple([(name, count - lower) for name, count in sums if count > lower]))


def played(summary, runs):
    """Return the counters, a dict, to which the runs lead from the summary, and how many reductions take place."""
    counters = dict(summary.counts)
    falls = 0
    for name, times in runs:
        falls += let_arrive(counters, summary.capacity, name, times)
    return counters, falls


def summary_of(capacity, counters):
    """Return the summary with the counters of a dict."""
    return Summary(capacity, tuple(sorted(counters.items())))


def place_count(pairs, place):
    """Return the count at a place, from 0 on, among the counts from the greatest one down; 0 behind the last one."""
    greatest = sorted([count for _, count in pairs], reverse=True)
    return greatest[place] if place < len(greatest) else 0


def is_summary(thing):
    """Return whether any value is a Summary."""
    return isinstance(thing, Summary)


def check_summary(thing):
    """Raise NotASummary if any value is not a Summary."""
    if not is_summary(thing):
        raise NotASummary(thing)


def check_partner(capacity, thing):
    """Raise NotASummary or CapacitiesDiffer if any value is not a Summary of this capacity."""
    check_summary(thing)
    if thing.capacity != capacity:
        raise CapacitiesDiffer(thing.capacity)
