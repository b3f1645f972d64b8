"""Reductions pictured as columns: each takes one unit from each of k + 1 different names.

A name with a start counter is in the first columns until its counter is empty.
Whatever else it loses is lost as it arrives, and may lie in any column behind
these. So the columns are filled in sections that begin where counters empty.
"""


def section_bounds(rows, depth):
    """Return the ascending numbers of columns behind which a start counter is empty, from 0 to all columns."""
    return sorted(set([0, depth] + [held for _, held, _ in rows if held < depth]))


def share_of(amount, kept, length):
    """Return what of an amount lies in a section of this length if no more than so much is kept for later."""
    return max(0, min(length, amount - kept))


def filled(amounts, kept, length):
    """Return the sum of the shares if so much is kept for later."""
    return sum([share_of(amount, kept, length) for amount in amounts.values()])


def leveled_shares(amounts, length, needed):
    """Return shares with the needed sum that leave amounts as equal as possible.

    Equal amounts are the easiest ones to place in the sections behind. If more is
    kept for later, the sum of the shares falls evenly from one point to the next.
    """
    points = []
    for amount in amounts.values():
        points += [amount, max(0, amount - length)]
    kept = max([point for point in points if filled(amounts, point, length) >= needed])
    falling = len([amount for amount in amounts.values() if 0 < amount - kept <= length])
    steps, excess = divmod(filled(amounts, kept, length) - needed, falling)
    shares = {name: share_of(amounts[name], kept + steps, length) for name in amounts}
    for name in amounts:
        if excess and 0 < amounts[name] - kept <= length:
            shares[name] -= 1
            excess -= 1
    return shares


def steps_behind(begin, at, length):
    """Return how far a place of a row is behind another one, across the end of the row."""
    return at - begin if at >= begin else at - begin + length


def blocks_of(shares, length):
    """Return the blocks of equal columns of a section, each as its length and its names.

    The shares are laid out one behind the other in rows as long as the section.
    No share is longer than a row, so no name is twice in a column. The last row may
    end before the others; then the columns behind its end have one name less.
    """
    begins = {}
    at = 0
    for name in shares:
        begins[name] = at
        at += shares[name]
        if at >= length:
            at -= length
    cuts = sorted(set(list(begins.values()) + [at, length]))
    blocks = []
    for low, high in zip(cuts, cuts[1:]):
        names = [name for name in shares if steps_behind(begins[name], low, length) < shares[name]]
        blocks.append((high - low, names))
    return blocks


def section_runs(left, rows, capacity, low, high):
    """Return the runs of the columns from low to high; take what they lose from what is left."""
    length = high - low
    held_names = [name for name, held, _ in rows if held > low]
    amounts = {name: left[name] for name, held, _ in rows if held <= low}
    shares = leveled_shares(amounts, length, (capacity + 1 - len(held_names)) * length)
    for name in shares:
        left[name] -= shares[name]
    runs = []
    # All names but the last one fill the free counters, and the last one empties them again.
    for size, names in blocks_of(shares, length):
        runs += [(name, size) for name in names]
    return runs


def lossy_runs(capacity, rows, depth):
    """Return runs of the arrivals that are lost in so many columns; the rows hold name, start count and loss."""
    left = {name: max(0, loss - held) for name, held, loss in rows}
    bounds = section_bounds(rows, depth)
    runs = []
    for low, high in zip(bounds, bounds[1:]):
        runs += section_runs(left, rows, capacity, low, high)
    return runs
