"""The values that claims and certificates consist of. Only the checker uses this file."""

from tallyplans.limits import MAX_CAPACITY, MAX_NAMES, MAX_ORDERS, MAX_RUNS

LETTERS = "abcdefghijklmnopqrstuvwxyz"
MOST_LETTERS = 8


def is_whole(thing):
    """Return whether any value is an integer: an int other than True and False."""
    return isinstance(thing, int) and not isinstance(thing, bool)


def is_number(thing):
    """Return whether any value is an integer from 0 on."""
    return is_whole(thing) and thing >= 0


def is_width(thing):
    """Return whether any value is a capacity."""
    return is_whole(thing) and 1 <= thing <= MAX_CAPACITY


def is_word(thing):
    """Return whether any value is a name."""
    if not isinstance(thing, str) or not 1 <= len(thing) <= MOST_LETTERS:
        return False
    return all([letter in LETTERS for letter in thing])


def is_run(thing):
    """Return whether any value is a pair of a name and an integer from 1 on."""
    return isinstance(thing, tuple) and len(thing) == 2 and is_word(thing[0]) and is_whole(thing[1]) and thing[1] >= 1


def are_runs(thing, most):
    """Return whether any value is a tuple of at most so many runs."""
    return isinstance(thing, tuple) and len(thing) <= most and all([is_run(part) for part in thing])


def are_counts(thing, most):
    """Return whether any value is counts with at most so many pairs."""
    if not are_runs(thing, most):
        return False
    return all([one[0] < other[0] for one, other in zip(thing, thing[1:])])


def are_few_names(runs):
    """Return whether the runs have no more different names than an order may have."""
    return len({name for name, _ in runs}) <= MAX_NAMES


def is_sequence(thing):
    """Return whether any value is an order."""
    return are_runs(thing, MAX_RUNS) and are_few_names(thing)


def is_merge_plan(thing):
    """Return whether any value is a merge plan."""
    if not isinstance(thing, tuple) or len(thing) > MAX_ORDERS:
        return False
    if not all([is_sequence(part) for part in thing]):
        return False
    return are_few_names([run for part in thing for run in part])


def is_part(kind, thing, capacity):
    """Return whether any value is of the kind of part that a claim of this capacity or its certificate has."""
    if kind == "name":
        return is_word(thing)
    if kind == "integer":
        return is_whole(thing)
    if kind == "number":
        return is_number(thing)
    if kind == "order":
        return is_sequence(thing)
    if kind == "counters":
        return are_counts(thing, capacity)
    if kind == "counts":
        return are_counts(thing, MAX_NAMES)
    return kind == "any"


def are_parts(kinds, things, capacity):
    """Return whether the things of a tuple are of these kinds, in this order."""
    if len(things) != len(kinds):
        return False
    return all([is_part(kind, thing, capacity) for kind, thing in zip(kinds, things)])
