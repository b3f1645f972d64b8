"""The replacing rule: a new item takes the slot with the least count and counts on from there."""

from tallyplans.arguments import check_run
from tallyplans.counts import counts_text
from tallyplans.errors import InvalidSlots
from tallyplans.names import is_integer_from
from tallyplans.orders import check_order
from tallyplans.summaries import Summary, check_counters

LEAST_SLOTS = 2
MOST_SLOTS = 9


def let_replace(held, slots, name, times):
    """Change the slots in use, a dict, by so many arrivals of the name."""
    if name in held or len(held) < slots:
        held[name] = held.get(name, 0) + times
        return
    least, gone = min([(count, item) for item, count in held.items()])
    del held[gone]
    held[name] = least + times


class Replacing:
    """Slots of the replacing rule and the counts of those in use; it never changes."""

    def __init__(self, slots, counts=()):
        if not is_integer_from(slots, LEAST_SLOTS) or slots > MOST_SLOTS:
            raise InvalidSlots(slots)
        check_counters(counts, slots)
        self.slots = slots
        self.counts = counts

    def __eq__(self, other):
        return isinstance(other, Replacing) and self.slots == other.slots and self.counts == other.counts

    def __len__(self):
        return len(self.counts)

    def __str__(self):
        return str(counts_text(self.counts))

    def __repr__(self):
        return f"Replacing({self.slots}, '{counts_text(self.counts)}')"

    def arrive(self, name, times=1):
        """Return the object after so many arrivals of the name."""
        check_run(name, times)
        return after_runs(self, ((name, times),))

    def play(self, order):
        """Return the object after the arrivals of the order."""
        check_order(order)
        return after_runs(self, order)

    def least(self):
        """Return the least count of the slots, 0 if a slot is free."""
        if len(self.counts) < self.slots:
            return 0
        return min([count for _, count in self.counts])

    def above_least(self):
        """Return the summary of what the counts are above the least one."""
        least = self.least()
        return Summary(self.slots - 1, tuple([(name, count - least) for name, count in self.counts if count > least]))


def after_runs(before, runs):
    """Return the object to which the runs lead from the one before."""
    held = dict(before.counts)
    for name, times in runs:
        let_replace(held, before.slots, name, times)
    return Replacing(before.slots, tuple(sorted(held.items())))
