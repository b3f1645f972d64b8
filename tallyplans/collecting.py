"""Collectors: a start summary and entries, runs and summaries, that actions change."""

from tallyplans.arguments import check_index, check_run
from tallyplans.counts import summed
from tallyplans.errors import Busy, InvalidAction, NothingToUndo, TooManyActions, TooManyNames
from tallyplans.limits import MAX_ACTIONS, MAX_NAMES
from tallyplans.summaries import Summary, check_partner, is_summary


def with_entry(entries, index, entry):
    """Return the entries with one more at the index."""
    if len(entries) >= MAX_ACTIONS:
        raise TooManyActions(len(entries) + 1)
    return entries[:index] + (entry,) + entries[index:]


def arrive_action(start, entries, name, times):
    """Return the start summary and the entries with a run behind the last one."""
    check_run(name, times)
    return start, with_entry(entries, len(entries), (name, times))


def merge_action(start, entries, summary):
    """Return the start summary and the entries with a Summary behind the last one."""
    check_partner(start.capacity, summary)
    return start, with_entry(entries, len(entries), summary)


def insert_action(start, entries, index, name, times):
    """Return the start summary and the entries with a run at the index."""
    check_index(index, len(entries))
    check_run(name, times)
    return start, with_entry(entries, index, (name, times))


def remove_action(start, entries, index):
    """Return the start summary and the entries without the one at the index."""
    check_index(index, len(entries) - 1)
    return start, entries[:index] + entries[index + 1:]


def start_action(start, entries, summary):
    """Return the new start summary and the entries."""
    check_partner(start.capacity, summary)
    return summary, entries


ACTIONS = {
    "arrive": arrive_action, "merge": merge_action, "insert": insert_action, "remove": remove_action,
    "start": start_action,
}

# How long the action with this word is.
LENGTHS = {"arrive": 3, "merge": 2, "insert": 4, "remove": 2, "start": 2}


def is_action(thing):
    """Return whether any value begins with the word of an action and is as long as this action."""
    if not isinstance(thing, tuple) or not thing or not isinstance(thing[0], str):
        return False
    return LENGTHS.get(thing[0]) == len(thing)


def check_actions(things):
    """Raise InvalidAction if any value is not a tuple of actions."""
    if not isinstance(things, tuple):
        raise InvalidAction(None)
    for index, thing in enumerate(things):
        if not is_action(thing):
            raise InvalidAction(index)


def changed(start, entries, action):
    """Return the start summary and the entries after the action, or raise its error."""
    change = ACTIONS[action[0]]
    parts = action[1:]
    return change(start, entries, *parts)


def collected(start, entries):
    """Return the summary to which the entries lead from the start summary."""
    current = start
    for entry in entries:
        if is_summary(entry):
            current = current.merged(entry)
        else:
            name, times = entry
            current = current.arrive(name, times)
    return current


def runs_among(entries):
    """Return the tuple of the runs among the entries."""
    return tuple([entry for entry in entries if not is_summary(entry)])


class Collector:
    """A start summary and a sequence of entries, with a history of the actions that led to them."""

    def __init__(self, capacity):
        self._start = Summary(capacity)
        self._entries = ()
        # For each action that is not undone: the action, and the start summary and the entries before it.
        self._past = []
        self.capacity = capacity
        self.busy = False
        self.attempts = 0

    def __eq__(self, other):
        # The start summaries are equal only if the capacities are.
        return isinstance(other, Collector) and self._start == other._start and self._entries == other._entries

    def __len__(self):
        return len(self._entries)

    def __str__(self):
        return str(self.current())

    def __repr__(self):
        return f"Collector({self.capacity}, {len(self._entries)} entries)"

    def start(self):
        """Return the start summary."""
        return self._start

    def entries(self):
        """Return the tuple of the entries."""
        return self._entries

    def current(self):
        """Return the current summary."""
        return collected(self._start, self._entries)

    def history(self):
        """Return the tuple of the actions that were done and not undone."""
        return tuple([action for action, _, _ in self._past])

    def arrived(self):
        """Return the counts of all arrivals of the runs among the entries."""
        counts = summed(runs_among(self._entries))
        if len(counts) > MAX_NAMES:
            raise TooManyNames(len(counts))
        return counts

    def do(self, action):
        """Do the action and return the current summary afterwards."""
        self._check_idle()
        if not is_action(action):
            raise InvalidAction(None)
        self._take(action)
        return self.current()

    def arrive(self, name, times=1):
        """Do the action "arrive"."""
        return self.do(("arrive", name, times))

    def merge(self, summary):
        """Do the action "merge"."""
        return self.do(("merge", summary))

    def insert_at(self, index, name, times=1):
        """Do the action "insert"."""
        return self.do(("insert", index, name, times))

    def remove_at(self, index):
        """Do the action "remove"."""
        return self.do(("remove", index))

    def restart(self, summary):
        """Do the action "start"."""
        return self.do(("start", summary))

    def do_all(self, actions, *, observer=None):
        """Do the actions of a tuple in order, all or none of them, and return the current summary afterwards."""
        self._check_idle()
        check_actions(actions)
        self.attempts += 1
        start, entries, past = self._start, self._entries, self._past
        result = None
        # The list of the time before stays as it is, for the case that an action or the observer fails.
        self._past = list(past)
        self.busy = True
        try:
            for index, action in enumerate(actions):
                self._take(action)
                if observer is not None:
                    observer(self, index)
            result = self.current()
        finally:
            self.busy = False
            if result is None:
                self._start, self._entries, self._past = start, entries, past
        return result

    def preview(self, actions):
        """Return the summary that do_all would return, and leave the collector as it is."""
        check_actions(actions)
        start, entries = self._start, self._entries
        for action in actions:
            start, entries = changed(start, entries, action)
        return collected(start, entries)

    def undo(self):
        """Undo the last action that is not undone and return the current summary afterwards."""
        self._check_idle()
        if not self._past:
            raise NothingToUndo()
        _, self._start, self._entries = self._past.pop()
        return self.current()

    def _check_idle(self):
        """Raise Busy if the collector is busy."""
        if self.busy:
            raise Busy()

    def _take(self, action):
        """Change the start summary, the entries and the history by the action, or raise its error."""
        start, entries = changed(self._start, self._entries, action)
        self._past.append((action, self._start, self._entries))
        self._start, self._entries = start, entries
