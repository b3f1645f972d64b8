"""Orders of arrivals, written in runs, and their texts."""

from tallyplans.counts import summed
from tallyplans.digits import format_number, parse_number
from tallyplans.errors import InvalidOrder, InvalidText
from tallyplans.limits import MAX_NAMES, MAX_RUNS
from tallyplans.names import is_pair


def good_runs(things):
    """Return how many things of a tuple, from the front, are an order."""
    names = {}
    for index, thing in enumerate(things):
        if index == MAX_RUNS or not is_pair(thing):
            return index
        names[thing[0]] = True
        if len(names) > MAX_NAMES:
            return index
    return len(things)


def check_order(thing):
    """Raise InvalidOrder if any value is not an order."""
    if not isinstance(thing, tuple):
        raise InvalidOrder(None)
    good = good_runs(thing)
    if good < len(thing):
        raise InvalidOrder(good)


def is_order(thing):
    """Return whether any value is an order."""
    return isinstance(thing, tuple) and good_runs(thing) == len(thing)


def arrivals_of(order):
    """Return the arrivals of the order, counts."""
    check_order(order)
    return summed(order)


def shortened(order):
    """Return the order in which neighbouring runs of the same name are one run."""
    check_order(order)
    runs = []
    for name, times in order:
        if runs and runs[-1][0] == name:
            runs[-1] = (name, runs[-1][1] + times)
        else:
            runs.append((name, times))
    return tuple(runs)


def format_run(name, times):
    """Return the text of a run."""
    if times == 1:
        return name
    return name + "*" + format_number(times)


def parse_run(word):
    """Return the pair of the name and the times that a word shows, times None if they are miswritten."""
    name, star, digits = word.partition("*")
    if not star:
        return (name, 1)
    times = parse_number(digits)
    # A single arrival is written without its times.
    return (name, None) if times == 1 else (name, times)


def format_order(order):
    """Return the text of the order."""
    check_order(order)
    if not order:
        return "-"
    return " ".join([format_run(name, times) for name, times in order])


def parse_order(text):
    """Return the order whose text is the text."""
    if not isinstance(text, str):
        raise InvalidText(text)
    if text == "-":
        return ()
    order = tuple([parse_run(word) for word in text.split(" ")])
    if not is_order(order):
        raise InvalidText(text)
    return order
