"""A console: commands, written as lines, to a collector."""

from tallyplans.certificates import certify_end
from tallyplans.checker import accepts
from tallyplans.collecting import Collector, runs_among
from tallyplans.digits import format_number, parse_number
from tallyplans.errors import InvalidLine
from tallyplans.late import late_change
from tallyplans.orders import format_order
from tallyplans.outcomes import find_order, obstacle
from tallyplans.ranges import count_range, reduction_range
from tallyplans.summaries import Summary
from tallyplans.summarytexts import format_counts, parse_summary
from tallyplans.truth import true_range

MOST_DIGITS = 60


def words_text(words):
    """Return the text of words, texts and integers from 0 on, with one space between them."""
    return " ".join([word if isinstance(word, str) else format_number(word) for word in words])


def answer_arrive(collector, name, times):
    """Return the text of the current summary after the action."""
    return str(collector.arrive(name, times))


def answer_insert(collector, index, name, times):
    """Return the text of the current summary after the action."""
    return str(collector.insert_at(index, name, times))


def answer_remove(collector, index):
    """Return the text of the current summary after the action."""
    return str(collector.remove_at(index))


def answer_undo(collector):
    """Return the text of the current summary after an action is undone."""
    return str(collector.undo())


def answer_current(collector):
    """Return the text of the current summary."""
    return str(collector.current())


def answer_arrived(collector):
    """Return the text of the arrivals."""
    return format_counts(collector.arrived())


def answer_reductions(collector):
    """Return the least and the greatest number of reductions over all orders of the arrivals."""
    return words_text(reduction_range(collector.capacity, collector.arrived()))


def answer_range(collector, name):
    """Return the least and the greatest count with which the name can end."""
    return words_text(count_range(collector.capacity, collector.arrived(), name))


def answer_true(collector, name, size):
    """Return the least and the greatest true count of the name for so many arrivals."""
    return words_text(true_range(collector.current(), size, name))


def answer_late(collector, index, name):
    """Return what a late arrival before a run changes, for the runs alone."""
    return words_text(late_change(collector.start(), runs_among(collector.entries()), index, name))


def answer_merge(collector, summary):
    """Return the text of the current summary after the action."""
    return str(collector.merge(summary))


def answer_order(collector, end):
    """Return the text of an order of the arrivals that leads to the end, or the words of the obstacle."""
    start = Summary(collector.capacity)
    arrivals = collector.arrived()
    reason = obstacle(start, arrivals, end)
    if reason is not None:
        return words_text(reason)
    return format_order(find_order(start, arrivals, end))


def answer_check(collector, end):
    """Return whether the checker accepts what is certified of the end."""
    claim, certificate = certify_end(Summary(collector.capacity), collector.arrived(), end)
    return "accepted" if accepts(claim, certificate) else "rejected"


ANSWERS = {
    "arrive": answer_arrive, "insert": answer_insert, "remove": answer_remove, "undo": answer_undo,
    "current": answer_current, "arrived": answer_arrived, "reductions": answer_reductions, "range": answer_range,
    "true": answer_true, "late": answer_late,
}

# What stands behind the command: w for a word, n for a number.
PLACES = {
    "arrive": "wn", "insert": "nwn", "remove": "n", "undo": "", "current": "", "arrived": "", "reductions": "",
    "range": "w", "true": "wn", "late": "nw",
}

# The commands with the text of a summary behind them.
SUMMARY_ANSWERS = {"merge": answer_merge, "order": answer_order, "check": answer_check}


def read_value(place, word):
    """Return what a word behind the command stands for, None if it is miswritten."""
    if place == "w":
        return word if word else None
    return parse_number(word) if len(word) <= MOST_DIGITS else None


def read_values(line):
    """Return the list of the values behind the command of a line, None if it is no line of a command."""
    command, *words = line.split(" ")
    if command not in PLACES:
        return None
    if command == "arrive" and len(words) == 1:
        words.append("1")
    places = PLACES[command]
    if len(words) != len(places):
        return None
    values = [read_value(place, word) for place, word in zip(places, words)]
    return None if None in values else values


class Console:
    """A collector that is asked and changed by lines."""

    def __init__(self, capacity):
        self._collector = Collector(capacity)

    def run(self, line):
        """Run the command of the line and return its text."""
        if not isinstance(line, str):
            raise InvalidLine(line)
        command, space, rest = line.partition(" ")
        if command in SUMMARY_ANSWERS and space:
            change = SUMMARY_ANSWERS[command]
            return change(self._collector, parse_summary(self._collector.capacity, rest))
        values = read_values(line)
        if values is None:
            raise InvalidLine(line)
        answer = ANSWERS[command]
        return answer(self._collector, *values)
