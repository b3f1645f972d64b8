"""What the document says of collectors, and actions for them."""

from tallyplans.collecting import Collector
from tallyplans.errors import TooManyNames
from tallyplans.summaries import Summary
from tests.reference import random_counts
from tests.samples import counts_of, names_of


def done(state, action):
    """Return the start summary and the entries after an action that can be done."""
    start, entries = state
    word, *parts = action
    entries = list(entries)
    if word == "arrive":
        entries.append(tuple(parts))
    elif word == "merge":
        entries.append(parts[0])
    elif word == "insert":
        entries.insert(parts[0], tuple(parts[1:]))
    elif word == "remove":
        entries.pop(parts[0])
    else:
        start = parts[0]
    return start, tuple(entries)


def result_of(state):
    """Return the current summary: the entries, one after the other, from the start summary."""
    current, entries = state
    for entry in entries:
        current = current.merged(entry) if isinstance(entry, Summary) else current.play((entry,))
    return current


def arrived_or_error(collector):
    """Return the arrivals of a collector, or the number of names that are too many."""
    try:
        return collector.arrived()
    except TooManyNames as error:
        return error.found


def told(collector):
    """Return all that a collector tells."""
    return [
        collector.capacity, collector.start(), collector.entries(), collector.current(), collector.history(),
        arrived_or_error(collector), str(collector), repr(collector), len(collector), bool(collector), collector.busy,
        collector.attempts, collector.preview(()),
    ]


def expected_told(capacity, state, history, attempts, busy=False):
    """Return all that a collector of this state tells."""
    start, entries = state
    runs = [entry for entry in entries if not isinstance(entry, Summary)]
    sums = {}
    for name, times in runs:
        sums[name] = sums.get(name, 0) + times
    arrived = tuple(sorted(sums.items())) if len(sums) <= 12 else len(sums)
    current = result_of(state)
    return [
        capacity, start, entries, current, tuple(history), arrived, str(current),
        f"Collector({capacity}, {len(entries)} entries)", len(entries), len(entries) > 0, busy, attempts, current,
    ]


def random_summary(source, capacity, most):
    """Return a summary: empty, partly full or full."""
    pairs = source.choice([0, capacity, source.randint(0, capacity)])
    return Summary(capacity, random_counts(source, source.sample(names_of(12), pairs), most))


def random_action(source, capacity, entries, most):
    """Return an action that can be done with so many entries."""
    words = ["arrive", "arrive", "merge", "insert", "remove", "start"]
    if entries == 0:
        words.remove("remove")
    if entries == 100:
        words = ["remove", "start"]
    word = source.choice(words)
    name, times = source.choice(names_of(12)), source.randint(1, most)
    return {
        "arrive": ("arrive", name, times),
        "merge": ("merge", random_summary(source, capacity, most)),
        "insert": ("insert", source.randint(0, entries), name, times),
        "remove": ("remove", source.randrange(entries) if entries else 0),
        "start": ("start", random_summary(source, capacity, most)),
    }[word]


def random_actions(source, capacity, many, most):
    """Return so many actions that can be done one after the other by a new collector."""
    actions, entries = [], 0
    for _ in range(many):
        actions.append(random_action(source, capacity, entries, most))
        entries += {"arrive": 1, "merge": 1, "insert": 1, "remove": -1, "start": 0}[actions[-1][0]]
    return actions


def by_method(collector, action, by_name=False):
    """Do an action by its method, by position or by name."""
    word, *parts = action
    if word == "arrive":
        return collector.arrive(times=parts[1], name=parts[0]) if by_name else collector.arrive(*parts)
    if word == "merge":
        return collector.merge(summary=parts[0]) if by_name else collector.merge(*parts)
    if word == "insert" and by_name:
        return collector.insert_at(times=parts[2], name=parts[1], index=parts[0])
    if word == "insert":
        return collector.insert_at(*parts)
    if word == "remove":
        return collector.remove_at(index=parts[0]) if by_name else collector.remove_at(*parts)
    return collector.restart(summary=parts[0]) if by_name else collector.restart(*parts)


def full_collector(capacity=2):
    """Return a collector with a hundred entries."""
    collector = Collector(capacity)
    collector.do_all((("arrive", "a", 1), ("merge", Summary(capacity, counts_of(capacity)))) * 50)
    return collector
