"""Promises 7 to 15: summaries, arrivals, orders and merging."""

import copy
import itertools

from tallyplans.errors import (
    CapacitiesDiffer, InvalidCapacity, InvalidName, InvalidOrder, InvalidSummary, InvalidTimes, NotASummary,
)
from tallyplans.orders import arrivals_of
from tallyplans.summaries import Summary, is_summary
from tests.helpers import TallyTest
from tests.reference import (
    arrived_once, played_singly, random_counts, random_order, scaled, seeded, small_counts,
)
from tests.samples import (
    CAPACITIES, GOOD_COUNTS, GOOD_NAMES, NO_SUMMARIES, NO_TUPLES, SIXTY, WRONG_CAPACITIES, WRONG_COUNTS, WRONG_NAMES,
    WRONG_PAIRS, counts_of, names_of, spoiled_counts, spoiled_orders,
)

NAMES = ["a", "ab", "b", "c"]


def small_summaries(capacity, names=("a", "ab", "b"), most=3):
    return [Summary(capacity, counts) for counts in small_counts(names, most, capacity)]


def large_summaries(capacity):
    """Return summaries with large counts: empty, partly full and full ones."""
    source = seeded(capacity)
    return [
        Summary(capacity, random_counts(source, names_of(12)[first:first + pairs], most))
        for pairs in range(capacity + 1)
        for first, most in ((0, SIXTY), (3, SIXTY), (1, 10 ** 30))
    ]


class SummaryTest(TallyTest):
    """What every summary test needs."""

    def check_like_new(self, summary, capacity, counts):
        """Check that the summary is in all respects like a new one with these attributes."""
        new = Summary(capacity, counts)
        self.check_value(summary, new)
        self.assertIs(summary.__class__, Summary)
        self.check_value([summary.capacity, summary.counts], [capacity, counts])
        self.assertIs(summary == new, True)
        self.assertIs(new == summary, True)
        self.assertIs(summary != new, False)
        self.assertEqual(sorted(vars(summary)), ["capacity", "counts"])
        self.check_value([str(summary), len(summary), bool(summary)], [str(new), len(new), bool(new)])
        self.check_value([summary.kept(), summary.is_full()], [new.kept(), new.is_full()])


class CreatedTest(SummaryTest):
    def test_examples(self):
        summary = Summary(3, (("a", 2), ("b", 1)))
        found = [len(summary), str(summary), repr(summary), bool(Summary(3))]
        self.check_value(found, [2, "a:2 b:1", "Summary(3, 'a:2 b:1')", False])
        self.check_raises(InvalidSummary, {"index": 1}, Summary, 1, (("a", 2), ("b", 1)))
        self.check_raises(InvalidCapacity, {"capacity": 9}, Summary, 9, (("a", 2), ("b", 1)))
        summary = Summary(2, (("a", 2), ("b", 1)))
        found = [summary.tally("a"), summary.tally("c"), summary.kept(), summary.is_full()]
        self.check_value(found, [2, 0, 3, True])
        self.check_value([is_summary(Summary(1)), is_summary(())], [True, False])

    def check_created(self, summary, capacity, counts):
        self.check_value([summary.capacity, summary.counts], [capacity, counts])
        self.check_value([len(summary), bool(summary)], [len(counts), len(counts) > 0])
        self.check_value([summary.kept(), summary.is_full()], [sum(dict(counts).values()), len(counts) == capacity])
        text = " ".join(f"{name}:{count}" for name, count in counts) or "-"
        self.check_value([str(summary), repr(summary)], [text, f"Summary({capacity}, '{text}')"])
        for name in names_of(9) + GOOD_NAMES + ["b", "zeta"]:
            self.check_value(summary.tally(name), dict(counts).get(name, 0))
            self.check_value(summary.tally(name=name), dict(counts).get(name, 0))
        self.assertIs(is_summary(summary), True)
        self.assertIs(is_summary(thing=summary), True)

    def test_by_position_by_name_and_left_out(self):
        for capacity in CAPACITIES:
            for counts in [row for row in GOOD_COUNTS if len(row) <= capacity]:
                self.check_created(Summary(capacity, counts), capacity, counts)
                self.check_created(Summary(capacity, counts=counts), capacity, counts)
                self.check_created(Summary(counts=counts, capacity=capacity), capacity, counts)
                self.assertIs(Summary(capacity, counts).counts, counts)
            self.check_created(Summary(capacity), capacity, ())
            self.check_created(Summary(capacity=capacity), capacity, ())

    def test_wrong_capacity_comes_first(self):
        for capacity in WRONG_CAPACITIES:
            for counts in NO_TUPLES + [(), (("a", 1),), counts_of(9), (("a", 0),), (None,)]:
                self.check_raises(InvalidCapacity, {"capacity": capacity}, Summary, capacity, counts)
            self.check_raises(InvalidCapacity, {"capacity": capacity}, Summary, capacity)
            self.check_raises(InvalidCapacity, {"capacity": capacity}, Summary, counts=None, capacity=capacity)

    def test_counts_that_are_no_tuple(self):
        for capacity in CAPACITIES:
            for counts in NO_TUPLES:
                self.check_raises(InvalidSummary, {"index": None}, Summary, capacity, counts)

    def test_least_index(self):
        for thing, index in spoiled_counts():
            for capacity in (1, 2, 5, 8):
                self.check_raises(InvalidSummary, {"index": min(index, capacity)}, Summary, capacity, thing)

    def test_each_wrong_pair(self):
        for capacity in CAPACITIES:
            for wrong in WRONG_PAIRS:
                self.check_raises(InvalidSummary, {"index": 0}, Summary, capacity, counts=(wrong, ("b", 1)))

    def test_one_pair_too_many(self):
        for capacity in CAPACITIES:
            for many in range(capacity + 1, 14):
                self.check_raises(InvalidSummary, {"index": capacity}, Summary, capacity, counts_of(many))
            self.assertEqual(Summary(capacity, counts_of(capacity)).counts, counts_of(capacity))

    def test_is_summary_of_any_value(self):
        for thing in NO_SUMMARIES:
            self.assertIs(is_summary(thing), False)

    def test_wrong_things_do_not_change(self):
        for thing in ([("a", 1)], (["a", 1],), (("a", [1]),), {"a": 1}):
            before = copy.deepcopy(thing)
            with self.assertRaises(InvalidSummary):
                Summary(2, thing)
            self.assertEqual(thing, before)

    def test_good_counts_are_accepted_after_errors(self):
        for thing in (None, (("a", 0),), counts_of(4), (("b", 1), ("a", 2))):
            with self.assertRaises(InvalidSummary):
                Summary(3, thing)
            self.check_created(Summary(3, (("a", 2), ("b", 1))), 3, (("a", 2), ("b", 1)))


class EqualTest(SummaryTest):
    def test_equal_exactly_if_both_attributes_are(self):
        rows = [
            (capacity, counts) for capacity in CAPACITIES for counts in
            [(), (("a", 1),), (("a", 2),), (("b", 1),), (("ab", 1),), (("a", SIXTY),), counts_of(2), counts_of(8)]
            if len(counts) <= capacity
        ]
        for one, other in itertools.product(rows, repeat=2):
            self.assertIs(Summary(*one) == Summary(*other), one == other)
            self.assertIs(Summary(*one) != Summary(*other), one != other)

    def test_equals_itself(self):
        summary = Summary(2, (("a", 1),))
        self.assertIs(summary == summary, True)
        self.assertIs(summary != summary, False)

    def test_equals_nothing_else(self):
        for summary in (Summary(1), Summary(2, (("a", 1),)), Summary(8, counts_of(8))):
            others = NO_SUMMARIES + [
                summary.counts, summary.capacity, str(summary), repr(summary), (summary.capacity, summary.counts),
                [summary.capacity, summary.counts], vars(summary), len(summary), (summary,), [summary],
            ]
            for other in others:
                self.assertIs(summary == other, False)
                self.assertIs(other == summary, False)
                self.assertIs(summary != other, True)
                self.assertIs(other != summary, True)


class ArriveTest(SummaryTest):
    def test_examples(self):
        summary = Summary(2, (("a", 5), ("b", 2)))
        found = [str(summary.arrive("a", 3)), str(summary.arrive("c")), str(summary.arrive("c", 4))]
        self.check_value(found, ["a:8 b:2", "a:4 b:1", "a:3 c:2"])
        self.check_raises(InvalidTimes, {"times": 0}, Summary(2).arrive, "a", 0)

    def check_single(self, summary, name):
        before = (summary.capacity, summary.counts)
        expected, _ = arrived_once(summary.capacity, summary.counts, name)
        calls = [
            summary.arrive(name), summary.arrive(name, 1), summary.arrive(name=name),
            summary.arrive(name, times=1), summary.arrive(times=1, name=name), summary.play(((name, 1),)),
        ]
        for found in calls:
            self.check_like_new(found, summary.capacity, expected)
        self.check_value((summary.capacity, summary.counts), before)

    def test_single_arrivals(self):
        for capacity in (1, 2, 3):
            for summary in small_summaries(capacity):
                for name in NAMES:
                    self.check_single(summary, name)

    def test_single_arrivals_at_each_capacity(self):
        for capacity in CAPACITIES:
            ones = tuple((name, 1) for name in names_of(capacity))
            mixed = tuple((name, 1 + at % 2) for at, name in enumerate(names_of(capacity)))
            for counts in (ones, mixed, ones[1:], mixed[:-1], ()):
                for name in names_of(capacity) + ["q", "aaaaaaaa"]:
                    self.check_single(Summary(capacity, counts), name)
            for summary in large_summaries(capacity):
                for name in names_of(capacity) + ["q", "aaaaaaaa"]:
                    self.check_single(summary, name)

    def test_times_are_so_many_single_arrivals(self):
        for capacity in (1, 2, 3):
            for summary in small_summaries(capacity):
                for name in NAMES:
                    for times in range(1, 9):
                        expected, falls = played_singly(capacity, summary.counts, ((name, times),))
                        self.check_like_new(summary.arrive(name, times), capacity, expected)
                        self.check_like_new(summary.arrive(times=times, name=name), capacity, expected)
                        self.check_value(summary.reductions(((name, times),)), falls)
                        # Large counts: everything is multiplied by one number.
                        large = Summary(capacity, scaled(summary.counts, SIXTY)).arrive(name, times * SIXTY)
                        self.check_value(large.counts, scaled(expected, SIXTY))

    def test_times_in_two_parts(self):
        source = seeded(11)
        for capacity in CAPACITIES:
            for summary in large_summaries(capacity):
                for name in names_of(capacity) + ["q"]:
                    for first in (1, source.randint(1, 10 ** 30), source.randint(1, SIXTY), SIXTY):
                        for second in (1, source.randint(1, SIXTY)):
                            parts = summary.arrive(name, first).arrive(name, second)
                            self.check_like_new(summary.arrive(name, first + second), capacity, parts.counts)

    def test_large_times_around_the_least_count(self):
        least = 10 ** 59
        summary = Summary(3, (("a", least), ("b", least + 1), ("c", SIXTY)))
        for times, expected in [
            (least - 1, (("a", 1), ("b", 2), ("c", SIXTY - least + 1))),
            (least, (("b", 1), ("c", SIXTY - least))),
            (least + 1, (("b", 1), ("c", SIXTY - least), ("d", 1))),
            (SIXTY, (("b", 1), ("c", SIXTY - least), ("d", SIXTY - least))),
        ]:
            self.check_value(summary.arrive("d", times).counts, expected)
        self.check_value(Summary(1, (("a", SIXTY),)).arrive("a", SIXTY).counts, (("a", 2 * SIXTY),))

    def test_errors(self):
        for summary in (Summary(1), Summary(2, (("a", 2), ("b", 1)))):
            before = (summary.capacity, summary.counts)
            for name in WRONG_NAMES:
                self.check_raises(InvalidName, {"name": name}, summary.tally, name)
                self.check_raises(InvalidName, {"name": name}, summary.tally, name=name)
                self.check_raises(InvalidName, {"name": name}, summary.arrive, name)
                for times in [1, 2] + WRONG_COUNTS:
                    self.check_raises(InvalidName, {"name": name}, summary.arrive, name, times)
            for times in WRONG_COUNTS:
                self.check_raises(InvalidTimes, {"times": times}, summary.arrive, "a", times)
                self.check_raises(InvalidTimes, {"times": times}, summary.arrive, times=times, name="zeta")
            self.check_value((summary.capacity, summary.counts), before)


class PlayTest(SummaryTest):
    def test_examples(self):
        self.check_value(Summary(2).play((("a", 2), ("b", 1), ("c", 1))).counts, (("a", 1),))
        self.check_raises(InvalidOrder, {"index": 1}, Summary(2).play, (("a", 2), ("b", 0)))
        order = (("a", 10 ** 30), ("b", 10 ** 30))
        found = [Summary(2).reductions((("a", 2), ("b", 1), ("c", 1))), Summary(1).reductions(order)]
        self.check_value(found, [1, 1000000000000000000000000000000])

    def check_played(self, summary, order):
        """Check play against single runs, and the number of reductions against the totals."""
        before = (summary.capacity, summary.counts, copy.deepcopy(order))
        later = summary
        falls = 0
        for name, times in order:
            falls += later.reductions(((name, times),))
            later = later.arrive(name, times)
        self.check_like_new(summary.play(order), summary.capacity, later.counts)
        self.check_like_new(summary.play(order=order), summary.capacity, later.counts)
        self.check_value([summary.reductions(order), summary.reductions(order=order)], [falls, falls])
        lost = summary.kept() + sum(times for _, times in order) - later.kept()
        self.assertEqual(falls * (summary.capacity + 1), lost)
        self.check_value((summary.capacity, summary.counts, order), before)

    def check_singly(self, summary, order):
        expected, falls = played_singly(summary.capacity, summary.counts, order)
        self.check_value([summary.play(order).counts, summary.reductions(order)], [expected, falls])

    def test_all_small_orders(self):
        runs = list(itertools.product(["a", "b", "c"], [1, 2]))
        for capacity in (1, 2):
            for summary in small_summaries(capacity, most=2)[::2]:
                for many in range(4):
                    for order in itertools.product(runs, repeat=many):
                        self.check_singly(summary, order)

    def test_orders_of_all_lengths(self):
        source = seeded(12)
        for capacity in CAPACITIES:
            for many in (0, 1, 2, 5, 30, 999, 1000):
                names = names_of(source.randint(1, 12))
                counts = random_counts(source, names_of(12)[:capacity], 9)
                for start in (Summary(capacity), Summary(capacity, counts), Summary(capacity, counts[1:])):
                    order = random_order(source, names, many, 3)
                    self.check_singly(start, order)
                    self.check_played(start, order)
                    large = Summary(capacity, scaled(start.counts, 10 ** 58)).play(scaled(order, 10 ** 58))
                    self.check_value(large.counts, scaled(start.play(order).counts, 10 ** 58))

    def test_large_orders(self):
        source = seeded(13)
        for capacity in CAPACITIES:
            for summary in large_summaries(capacity):
                for most in (10 ** 59, SIXTY):
                    self.check_played(summary, random_order(source, names_of(12), 40, most))

    def test_reductions_of_two_parts(self):
        source = seeded(14)
        for capacity in CAPACITIES:
            for summary in large_summaries(capacity)[::3]:
                order = random_order(source, names_of(12), 20, SIXTY)
                falls = summary.reductions(order)
                for cut in range(21):
                    first, second = order[:cut], order[cut:]
                    middle = summary.play(first)
                    self.assertEqual(summary.reductions(first) + middle.reductions(second), falls)
                    self.assertEqual(middle.play(second), summary.play(order))

    def test_no_reductions_without_a_full_summary(self):
        for capacity in CAPACITIES:
            order = scaled(counts_of(capacity), SIXTY)
            self.check_value(Summary(capacity).reductions(order), 0)
            self.check_value(Summary(capacity).reductions(()), 0)
            self.check_value(Summary(capacity).play(order).counts, arrivals_of(order))

    def test_errors(self):
        for summary in (Summary(1), Summary(2, (("a", 2), ("b", 1)))):
            before = (summary.capacity, summary.counts)
            for call in (summary.play, summary.reductions):
                for thing in NO_TUPLES:
                    self.check_raises(InvalidOrder, {"index": None}, call, thing)
                    self.check_raises(InvalidOrder, {"index": None}, call, order=thing)
                for thing, index in spoiled_orders():
                    self.check_raises(InvalidOrder, {"index": index}, call, thing)
            self.check_value((summary.capacity, summary.counts), before)


class MergedTest(SummaryTest):
    def merged_by_words(self, one, other):
        """Return the counts of point 19."""
        names = sorted(set(dict(one.counts)) | set(dict(other.counts)))
        sums = {name: dict(one.counts).get(name, 0) + dict(other.counts).get(name, 0) for name in names}
        greatest = sorted(sums.values(), reverse=True)
        lower = greatest[one.capacity] if len(greatest) > one.capacity else 0
        return tuple((name, sums[name] - lower) for name in names if sums[name] - lower > 0)

    def check_merged(self, one, other):
        before = [one.capacity, one.counts, other.capacity, other.counts]
        expected = self.merged_by_words(one, other)
        self.check_like_new(one.merged(other), one.capacity, expected)
        self.check_like_new(other.merged(one), one.capacity, expected)
        self.check_like_new(one.merged(other=other), one.capacity, expected)
        self.check_value([one.capacity, one.counts, other.capacity, other.counts], before)

    def test_examples(self):
        one = Summary(2, (("a", 5), ("b", 3)))
        other = Summary(2, (("b", 1), ("c", 2)))
        self.check_value(one.merged(other).counts, (("a", 3), ("b", 2)))
        self.check_raises(CapacitiesDiffer, {"capacity": 3}, Summary(2).merged, Summary(3))
        self.check_raises(NotASummary, {"value": (("a", 1),)}, Summary(2).merged, (("a", 1),))

    def test_small_summaries(self):
        for capacity in (1, 2, 3):
            rows = small_summaries(capacity, ("a", "b", "c", "d"), 2)
            for one, other in itertools.product(rows, rows[::2]):
                self.check_merged(one, other)

    def test_ties(self):
        one = Summary(2, (("a", 2), ("b", 2)))
        self.check_value(one.merged(Summary(2, (("c", 2), ("d", 2)))).counts, ())
        self.check_value(one.merged(Summary(2, (("a", 1), ("c", 2)))).counts, (("a", 1),))
        self.check_value(one.merged(Summary(2, (("c", 1),))).counts, (("a", 1), ("b", 1)))

    def test_each_capacity(self):
        for capacity in CAPACITIES:
            rows = large_summaries(capacity)
            for one, other in itertools.product(rows, rows):
                self.check_merged(one, other)
            for one in rows:
                self.assertEqual(one.merged(Summary(capacity)), one)
                self.assertEqual(Summary(capacity).merged(one), one)
                self.assertEqual(one.merged(one).counts, scaled(one.counts, 2))

    def test_errors(self):
        for summary in (Summary(1), Summary(2, (("a", 2), ("b", 1)))):
            before = (summary.capacity, summary.counts)
            for thing in NO_SUMMARIES + [summary.counts, str(summary), (summary,), [summary]]:
                self.check_raises(NotASummary, {"value": thing}, summary.merged, thing)
                self.check_raises(NotASummary, {"value": thing}, summary.merged, other=thing)
            for capacity in CAPACITIES:
                if capacity != summary.capacity:
                    other = Summary(capacity, counts_of(1))
                    self.check_raises(CapacitiesDiffer, {"capacity": capacity}, summary.merged, other)
            self.check_value((summary.capacity, summary.counts), before)

    def test_counts_of_any_size(self):
        summary = Summary(2, (("a", 1), ("b", SIXTY)))
        for _ in range(20000):
            summary = summary.merged(summary)
        self.assertEqual(summary.counts, (("a", 2 ** 20000), ("b", SIXTY * 2 ** 20000)))
        self.assertEqual(len(str(summary)), len("a:") + 6021 + len(" b:") + 6081)
        self.assertEqual(repr(summary), f"Summary(2, '{summary}')")
        self.assertEqual(summary.kept(), 10 ** 60 * 2 ** 20000)
        self.assertEqual(summary.arrive("c", 2 ** 20000).counts, (("b", (SIXTY - 1) * 2 ** 20000),))
