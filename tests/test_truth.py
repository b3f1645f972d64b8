"""Promises 45 to 50: what a summary tells of the true counts behind it."""

import inspect

from tallyplans.errors import InvalidCounts, InvalidName, InvalidNumber, InvalidSize, NotASummary
from tallyplans.summaries import Summary
from tallyplans.truth import fits, most_ahead, reduction_count, surely_among, surely_more, true_range
from tests.helpers import TallyTest
from tests.reference import random_counts, random_order, seeded, small_counts
from tests.references import fitting_counts, spread
from tests.samples import (
    CAPACITIES, NO_SUMMARIES, NO_TUPLES, SIXTY, WRONG_COUNTS, WRONG_NAMES, counts_of, names_of, spoiled_counts,
)

LARGE = [0, 1, 10 ** 30, SIXTY]


def size_of(summary, falls):
    """Return the number of arrivals behind the summary with so many reductions."""
    return summary.kept() + falls * (summary.capacity + 1)


def some_summaries():
    """Return empty, partly full and full summaries of all capacities, with small and large counts."""
    source = seeded(45)
    rows = []
    for capacity in CAPACITIES:
        for pairs in sorted({0, 1, capacity // 2, capacity}):
            for most in (1, 5, 10 ** 30, SIXTY):
                rows.append(Summary(capacity, random_counts(source, source.sample(names_of(14), pairs), most)))
    return rows


class ExamplesTest(TallyTest):
    def test_examples(self):
        summary = Summary(2, (("a", 4), ("b", 1)))
        found = [reduction_count(summary, 11), true_range(summary, 11, "a"), true_range(summary, 11, "c")]
        self.check_value(found, [2, (4, 6), (0, 2)])
        found = [fits(summary, 11, (("a", 6), ("b", 3), ("c", 2))), fits(summary, 11, (("a", 7), ("b", 3), ("c", 1)))]
        self.check_value(found, [True, False])
        self.check_raises(InvalidSize, {"size": 10}, reduction_count, Summary(2, (("a", 4), ("b", 1))), 10)
        found = [surely_more(summary, 11, "a", "b"), surely_more(summary, 11, "b", "c"), most_ahead(summary, 11, "b")]
        self.check_value(found, [True, False, 4])
        found = [surely_among(summary, 11, name, number) for name, number in (("a", 1), ("b", 4), ("b", 5))]
        self.check_value(found, [True, False, True])


class ReductionCountTest(TallyTest):
    def test_every_number_of_reductions(self):
        for summary in some_summaries():
            for falls in [0, 1, 2, 17, 10 ** 30 + 1, SIXTY]:
                self.check_value(reduction_count(summary, size_of(summary, falls)), falls)
                self.check_value(reduction_count(size=size_of(summary, falls), summary=summary), falls)

    def test_after_an_order(self):
        source = seeded(46)
        for capacity in CAPACITIES:
            for most in (1, 4, 10 ** 30):
                for runs in (0, 1, 7, 40, 1000):
                    order = random_order(source, names_of(12), runs, most)
                    size = sum(times for _, times in order)
                    summary = Summary(capacity).play(order)
                    self.check_value(reduction_count(summary, size), Summary(capacity).reductions(order))

    def test_sizes_between(self):
        for summary in some_summaries():
            for falls in (0, 1, 10 ** 30):
                for more in range(1, summary.capacity + 1):
                    size = size_of(summary, falls) + more
                    self.check_raises(InvalidSize, {"size": size}, reduction_count, summary, size)

    def test_sizes_below_the_total(self):
        for summary in some_summaries():
            for falls in (-1, -2, -SIXTY):
                size = size_of(summary, falls)
                self.check_raises(InvalidSize, {"size": size}, reduction_count, summary, size)


class FitsTest(TallyTest):
    def check_fits(self, summary, size, counts, expected):
        self.assertIs(fits(summary, size, counts), expected)
        self.assertIs(fits(counts=counts, size=size, summary=summary), expected)

    def expected(self, summary, size, counts):
        """Return whether the counts fit, by the words of point 22."""
        falls = (size - summary.kept()) // (summary.capacity + 1)
        true, kept = dict(counts), dict(summary.counts)
        every = [0 <= true.get(name, 0) - kept.get(name, 0) <= falls for name in set(true) | set(kept)]
        return all(every) and sum(true.values()) == size

    def test_small(self):
        found = set()
        for capacity, names in ((1, "abc"), (2, "abc"), (3, "abcd")):
            for end in small_counts(names, 2, capacity):
                summary = Summary(capacity, end)
                for falls in range(3):
                    size = size_of(summary, falls)
                    fitting = fitting_counts(capacity, end, falls, names)
                    for counts in small_counts(names, 4 if capacity < 3 else 2):
                        self.check_fits(summary, size, counts, counts in fitting)
                        self.assertEqual(self.expected(summary, size, counts), counts in fitting)
                        found.add((capacity, falls, counts in fitting))
        self.assertEqual(len(found), 3 * 3 * 2)

    def fitting(self, source, summary, falls):
        """Return true counts of at most twelve names that fit."""
        names = [name for name, _ in summary.counts]
        names += [name for name in names_of(26) if name not in names][:12 - len(names)]
        places = falls * (summary.capacity + 1)
        lost = {}
        for at, name in enumerate(names):
            # What is left must find room at the names behind.
            low = max(0, places - falls * (len(names) - at - 1))
            lost[name] = source.randint(low, min(falls, places))
            places -= lost[name]
        true = {name: summary.tally(name) + lost[name] for name in names}
        return tuple((name, true[name]) for name in sorted(true) if true[name])

    def test_large_and_changed(self):
        source = seeded(47)
        for summary in some_summaries():
            for falls in LARGE:
                size = size_of(summary, falls)
                counts = self.fitting(source, summary, falls)
                self.check_fits(summary, size, counts, True)
                self.check_changed(source, summary, size, counts)

    def check_changed(self, source, summary, size, counts):
        for at, (name, count) in enumerate(counts):
            without = counts[:at] + counts[at + 1:]
            self.check_fits(summary, size, without, False)
            more = counts[:at] + ((name, count + 1),) + counts[at + 1:]
            self.check_fits(summary, size, more, False)
            if count > 1:
                less = counts[:at] + ((name, count - 1),) + counts[at + 1:]
                self.check_fits(summary, size, less, False)
            other = source.randrange(len(counts))
            for moved in (1, count // 2, count):
                row = dict(counts)
                row[name] -= moved
                row[counts[other][0]] += moved
                changed = tuple((item, number) for item, number in sorted(row.items()) if number)
                self.check_fits(summary, size, changed, self.expected(summary, size, changed))

    def test_at_the_bounds(self):
        summary = Summary(2, (("b", 3), ("c", 1)))
        size = size_of(summary, 2)
        rows = [
            ((("b", 5), ("c", 3), ("d", 2)), True), ((("b", 6), ("c", 3), ("d", 1)), False),
            ((("b", 5), ("c", 2), ("d", 3)), False), ((("b", 3), ("c", 1), ("d", 2), ("e", 2), ("f", 2)), True),
            ((("b", 2), ("c", 2), ("d", 2), ("e", 2), ("f", 2)), False),
            ((("b", 5), ("d", 2), ("e", 2), ("f", 1)), False),
            ((("b", 4), ("c", 2), ("d", 2), ("e", 2)), True), ((("b", 4), ("c", 2), ("d", 2), ("e", 1)), False),
            ((), False),
        ]
        for counts, expected in rows:
            self.check_fits(summary, size, counts, expected)
        self.check_fits(Summary(2), 0, (), True)
        self.check_fits(Summary(2), 0, (("a", 3),), False)


class NamesTest(TallyTest):
    def test_true_range(self):
        for summary in some_summaries():
            for falls in LARGE:
                for name in names_of(14) + ["zeta"]:
                    expected = (summary.tally(name), summary.tally(name) + falls)
                    self.check_value(true_range(summary, size_of(summary, falls), name), expected)
                    found = true_range(name=name, summary=summary, size=size_of(summary, falls))
                    self.check_value(found, expected)

    def test_true_range_of_all_true_counts(self):
        for capacity in (1, 2):
            for end in small_counts("ab", 2, capacity):
                for falls in range(3):
                    rows = fitting_counts(capacity, end, falls, "abcdef")
                    for name in "abc":
                        found = [dict(row).get(name, 0) for row in rows]
                        size = size_of(Summary(capacity, end), falls)
                        self.check_value(true_range(Summary(capacity, end), size, name), (min(found), max(found)))

    def test_surely_more(self):
        seen = set()
        for summary in some_summaries():
            for falls in LARGE + [2, 3]:
                size = size_of(summary, falls)
                for one in names_of(14)[::2] + ["zeta"]:
                    for other in names_of(14)[::3] + ["zeta"]:
                        expected = one != other and summary.tally(one) > summary.tally(other) + falls
                        self.assertIs(surely_more(summary, size, one, other), expected)
                        self.assertIs(surely_more(other=other, one=one, size=size, summary=summary), expected)
                        seen.add((expected, falls))
        self.assertTrue({(True, 0), (True, 1), (True, 10 ** 30), (False, 0)} <= seen)

    def test_surely_more_at_the_bound(self):
        for falls in LARGE:
            for count in (1, 5, SIXTY):
                summary = Summary(3, (("a", count + falls + 1), ("b", count), ("c", count + falls)))
                size = size_of(summary, falls)
                self.assertIs(surely_more(summary, size, "a", "b"), True)
                self.assertIs(surely_more(summary, size, "c", "b"), False)
                self.assertIs(surely_more(summary, size, "b", "a"), False)
                self.assertIs(surely_more(summary, size, "a", "a"), False)
                self.assertIs(surely_more(summary, size, "x", "x"), False)
                self.assertIs(surely_more(summary, size, "x", "a"), False)
                self.assertIs(surely_more(summary, size, "b", "x"), count > falls)

    def test_surely_more_of_all_true_counts(self):
        for capacity in (1, 2):
            for end in small_counts("ab", 4, capacity):
                for falls in range(3):
                    rows = [dict(row) for row in fitting_counts(capacity, end, falls, "abcdef")]
                    for one, other in (("a", "b"), ("b", "a"), ("a", "c"), ("c", "a"), ("c", "d"), ("a", "a")):
                        expected = all(row.get(one, 0) > row.get(other, 0) for row in rows)
                        summary = Summary(capacity, end)
                        self.assertIs(surely_more(summary, size_of(summary, falls), one, other), expected)


class AheadTest(TallyTest):
    def most_of_all(self, capacity, end, falls, name):
        """Return the greatest number of names ahead, over all true counts that fit.

        More names without a counter than there are places of columns change nothing.
        """
        held = dict(end)
        fresh = [item for item in names_of(20) if item not in held and item != name][:falls * (capacity + 1)]
        return max(
            sum(count > row.get(name, 0) for item, count in row.items() if item != name)
            for row in map(dict, fitting_counts(capacity, end, falls, fresh + [name]))
        )

    def check_ahead(self, summary, size, name, most):
        self.check_value(most_ahead(summary, size, name), most)
        self.check_value(most_ahead(name=name, size=size, summary=summary), most)
        for number in (most, most + 1, most - 1, 1, SIXTY, 10 ** 30, 2):
            if number >= 1:
                self.assertIs(surely_among(summary, size, name, number), most < number)
                self.assertIs(surely_among(number=number, name=name, size=size, summary=summary), most < number)

    def test_small(self):
        for capacity, most, deepest in ((1, 3, 3), (2, 3, 2), (3, 2, 1)):
            for end in small_counts("abc", most, capacity):
                for falls in range(deepest + 1):
                    summary = Summary(capacity, end)
                    for name in ("a", "b", "zeta"):
                        expected = self.most_of_all(capacity, end, falls, name)
                        self.check_ahead(summary, size_of(summary, falls), name, expected)

    def by_trying(self, summary, falls, name):
        """Return the greatest number of names ahead, by trying how many of each kind may be."""
        goal = summary.tally(name) + 1
        needs = sorted(max(0, goal - count) for item, count in summary.counts if item != name)
        needs = [need for need in needs if need <= falls]
        places = falls * (summary.capacity + 1)
        best = 0
        for many in range(len(needs) + 1):
            left = places - sum(needs[:many])
            if left >= 0:
                best = max(best, many + (left // goal if goal <= falls else 0))
        return best

    def test_large(self):
        for summary in some_summaries():
            for falls in LARGE + [3, 12]:
                for name in [name for name, _ in summary.counts] + ["zeta"]:
                    self.check_ahead(summary, size_of(summary, falls), name, self.by_trying(summary, falls, name))

    def test_without_reductions(self):
        summary = Summary(4, (("a", 5), ("b", 5), ("c", 7), ("d", 1)))
        for name, most in (("a", 1), ("b", 1), ("c", 0), ("d", 3), ("e", 4)):
            self.check_ahead(summary, 18, name, most)
        self.check_ahead(Summary(8), 0, "a", 0)

    def test_names_without_a_counter(self):
        # Each place of a column may be a name of its own.
        self.check_ahead(Summary(8), 9 * 10 ** 30, "a", 9 * 10 ** 30)
        self.check_ahead(Summary(2, (("a", 1),)), 1 + 3 * 10, "a", 15)
        self.check_ahead(Summary(2, (("a", 10), ("b", 10))), 20 + 3 * 10, "a", 1)
        self.check_ahead(Summary(2, (("a", 9), ("b", 9))), 18 + 3 * 10, "a", 1 + 2)

    def test_spread(self):
        self.assertEqual(spread(2, 2, 1), [(1, 1)])
        self.assertEqual(sorted(spread(2, 2, 2)), [(0, 2), (1, 1), (2, 0)])


class ErrorsTest(TallyTest):
    CALLS = {
        reduction_count: (), fits: ((),), true_range: ("a",), surely_more: ("a", "b"), most_ahead: ("a",),
        surely_among: ("a", 1),
    }

    # None of these is 3 more than a multiple of 3 from 0 on.
    WRONG_SIZES = WRONG_COUNTS + [1, 2, 4, 5, 7, -3, 3 * 10 ** 30 + 1, 3 - 3 * 10 ** 30]

    def test_parameters(self):
        names = {
            reduction_count: [], fits: ["counts"], true_range: ["name"], surely_more: ["one", "other"],
            most_ahead: ["name"], surely_among: ["name", "number"],
        }
        for call, more in names.items():
            self.assertEqual(list(inspect.signature(call).parameters), ["summary", "size"] + more)

    def test_no_summary(self):
        for call, rest in self.CALLS.items():
            for thing in NO_SUMMARIES:
                for size in (0, 3, None, -1):
                    self.check_raises(NotASummary, {"value": thing}, call, thing, size, *rest)
                    self.check_raises(NotASummary, {"value": thing}, call, thing, size, *[None] * len(rest))

    def test_wrong_size(self):
        summary = Summary(2, (("a", 2), ("b", 1)))
        for call, rest in self.CALLS.items():
            for size in self.WRONG_SIZES:
                self.check_raises(InvalidSize, {"size": size}, call, summary, size, *rest)
                self.check_raises(InvalidSize, {"size": size}, call, summary, size, *[None] * len(rest))

    def test_no_counts(self):
        summary = Summary(2, (("a", 2), ("b", 1)))
        for thing in NO_TUPLES:
            self.check_raises(InvalidCounts, {"index": None}, fits, summary, 6, thing)
        for thing, index in spoiled_counts()[::3]:
            self.check_raises(InvalidCounts, {"index": index}, fits, summary, 6, thing)
        self.check_raises(InvalidCounts, {"index": 12}, fits, summary, size=3, counts=counts_of(13))

    def test_no_names(self):
        summary = Summary(2, (("a", 2), ("b", 1)))
        for name in WRONG_NAMES:
            for call in (true_range, most_ahead):
                self.check_raises(InvalidName, {"name": name}, call, summary, 6, name)
            for number in (1, 0, None):
                self.check_raises(InvalidName, {"name": name}, surely_among, summary, 6, name, number)
            for other in ("a", "", None, 1):
                self.check_raises(InvalidName, {"name": name}, surely_more, summary, 6, name, other)
            self.check_raises(InvalidName, {"name": name}, surely_more, summary, 6, "a", name)

    def test_no_number(self):
        summary = Summary(2, (("a", 2), ("b", 1)))
        for number in WRONG_COUNTS:
            self.check_raises(InvalidNumber, {"number": number}, surely_among, summary, 6, "a", number)

    def test_arguments_stay(self):
        summary, counts = Summary(2, (("a", 4), ("b", 1))), (("a", 6), ("b", 3), ("c", 2))
        for _ in range(2):
            fits(summary, 11, counts)
            most_ahead(summary, 11, "b")
            self.check_value(summary, Summary(2, (("a", 4), ("b", 1))))
            self.check_value(counts, (("a", 6), ("b", 3), ("c", 2)))
