"""Promises 79, 80, 87, 88 and 94: late arrivals."""

import copy
import itertools

from tallyplans.collecting import Collector
from tallyplans.errors import InvalidIndex, InvalidName, InvalidOrder, NotASummary
from tallyplans.late import late_change
from tallyplans.summaries import Summary
from tests.collectors import random_summary, told
from tests.helpers import TallyTest
from tests.reference import played_singly, random_counts, random_order, scaled, seeded, small_counts
from tests.samples import (
    CAPACITIES, NO_SUMMARIES, NO_TUPLES, SIXTY, WRONG_COUNTS, WRONG_NAMES, counts_of, names_as_order, names_of,
    spoiled_orders,
)


def changed_counts(capacity, counts, change):
    """Return the counts that a change leads to, None if it cannot be."""
    if change == ("less",):
        return tuple((name, count - 1) for name, count in counts if count > 1) if len(counts) == capacity else None
    word, item = change
    assert word == "more"
    after = {**dict(counts), item: dict(counts).get(item, 0) + 1}
    return tuple(sorted(after.items())) if len(after) <= capacity else None


class LateTest(TallyTest):
    def check_late(self, start, order, index, name, before, after):
        """Check the change from one summary to the other one, both as counts; return it."""
        change = late_change(start, order, index, name)
        self.assertIs(change.__class__, tuple)
        self.assertEqual(changed_counts(start.capacity, before, change), after)
        self.check_value(late_change(name=name, index=index, order=order, start=start), change)
        items = [name for name, _ in after]
        possible = [("less",)] + [("more", item) for item in items]
        fitting = [row for row in possible if changed_counts(start.capacity, before, row) == after]
        self.check_value(fitting, [change])
        return change

    def late_order(self, order, index, name):
        return order[:index] + ((name, 1),) + order[index:]


class SmallTest(LateTest):
    def test_examples(self):
        order = (("a", 2), ("b", 1))
        found = [late_change(Summary(2), order, index, name) for index, name in ((0, "a"), (0, "c"), (2, "b"))]
        self.check_value(found, [("more", "a"), ("less",), ("more", "b")])

    def test_all_short_orders(self):
        kinds = set()
        for capacity, starts in ((1, small_counts("ab", 2, 1)), (2, small_counts("abc", 1, 2)), (3, [()])):
            for start in starts:
                for length in range(5):
                    for names in itertools.product("abcd", repeat=length):
                        order = tuple((name, 1) for name in names)
                        kinds |= self.check_places(capacity, start, order)
        self.assertEqual(len(kinds), 2 * 3)

    def check_places(self, capacity, start, order):
        before, falls = played_singly(capacity, start, order)
        kinds = set()
        for index in range(len(order) + 1):
            for name in ("a", "d"):
                after, more = played_singly(capacity, start, self.late_order(order, index, name))
                change = self.check_late(Summary(capacity, start), order, index, name, before, after)
                # Each answer goes with its number of reductions.
                self.assertEqual(more - falls, {"more": 0, "less": 1}[change[0]])
                kinds.add((capacity, change[0]))
        return kinds

    def test_runs(self):
        source = seeded(79)
        for capacity in CAPACITIES:
            for _ in range(25):
                start = random_summary(source, capacity, 4)
                order = random_order(source, names_of(14)[:source.randint(2, 12)], source.randint(0, 12), 4)
                self.check_places_of_runs(start, order, source.choice(names_of(14)))

    def check_places_of_runs(self, start, order, name):
        before, falls = played_singly(start.capacity, start.counts, order)
        self.check_value(start.reductions(order), falls)
        for index in range(len(order) + 1):
            after, more = played_singly(start.capacity, start.counts, self.late_order(order, index, name))
            change = self.check_late(start, order, index, name, before, after)
            self.assertEqual(more - falls, {"more": 0, "less": 1}[change[0]])


class LargeTest(LateTest):
    def test_large_counts_and_1000_runs(self):
        source = seeded(80)
        seen = set()
        for capacity in CAPACITIES:
            for most in (3, 10 ** 30, SIXTY):
                for runs in (0, 1, 30, 999, 1000):
                    start = Summary(capacity, random_counts(source, names_of(20)[12:12 + capacity], most))
                    order = random_order(source, names_of(12), runs, most)
                    before = start.play(order).counts
                    for index in sorted({0, runs // 2, runs}):
                        for name in source.sample(names_of(20), 3):
                            first = start.play(order[:index]).arrive(name)
                            after = first.play(order[index:]).counts
                            seen.add(self.check_late(start, order, index, name, before, after)[0])
        self.assertEqual(seen, {"more", "less"})

    def test_values_stay(self):
        start, order = Summary(2, (("a", 2), ("b", 1))), (("c", 1), ("a", SIXTY))
        kept = copy.deepcopy([start.counts, order])
        for index in range(3):
            late_change(start, order, index, "d")
            self.check_value([start.counts, order], kept)

    def test_beyond_the_limits(self):
        for order in (names_as_order(12), (("a", 1), ("b", 1)) * 500, counts_of(12) * 83 + counts_of(4)):
            for capacity in (1, 8):
                start = Summary(capacity)
                before = start.play(order).counts
                for index in (0, 7, len(order)):
                    for name in ("m", "zeta", order[0][0]):
                        after = start.play(order[:index]).arrive(name)
                        after = after.play(order[index:]).counts
                        self.check_late(start, order, index, name, before, after)

    def test_multiplied_runs_between(self):
        # A late arrival in front of runs of any size changes one unit only.
        for factor in (10 ** 30, SIXTY):
            start = Summary(2, scaled((("a", 2), ("b", 3)), factor))
            order = scaled((("c", 1), ("d", 3), ("a", 1)), factor)
            before = start.play(order).counts
            for index in range(4):
                after = start.play(order[:index]).arrive("e").play(order[index:]).counts
                self.check_late(start, order, index, "e", before, after)


class WholeTest(LateTest):
    def test_late_arrivals_one_after_the_other(self):
        source = seeded(88)
        for capacity in CAPACITIES:
            for most in (1, 3, SIXTY // 100):
                start = random_summary(source, capacity, most)
                order = random_order(source, names_of(12), 10, most)
                counts, falls = start.play(order).counts, start.reductions(order)
                for _ in range(40):
                    index, name = source.randint(0, len(order)), source.choice(names_of(12))
                    change = late_change(start, order, index, name)
                    counts = changed_counts(capacity, counts, change)
                    falls += change == ("less",)
                    order = self.late_order(order, index, name)
                    self.check_value(start.play(order).counts, counts)
                    self.check_value(start.reductions(order), falls)

    def test_inserted_into_a_collector(self):
        source = seeded(94)
        for capacity in CAPACITIES:
            collector = Collector(capacity)
            collector.restart(random_summary(source, capacity, 5))
            for run in random_order(source, names_of(12), 15, 6):
                collector.arrive(*run)
            before = told(collector)
            counts = collector.current().counts
            for index in range(len(collector) + 1):
                for name in source.sample(names_of(12), 3):
                    change = late_change(collector.start(), collector.entries(), index, name)
                    expected = Summary(capacity, changed_counts(capacity, counts, change))
                    self.check_value(collector.preview((("insert", index, name, 1),)), expected)
                    self.check_value(told(collector), before)
                    self.check_value(collector.insert_at(index, name), expected)
                    self.check_value(collector.undo(), Summary(capacity, counts))
                    self.check_value(told(collector), before)

    def test_inserted_among_merged_summaries(self):
        source = seeded(95)
        for capacity in CAPACITIES:
            collector = Collector(capacity)
            for run in random_order(source, names_of(12), 8, 6):
                collector.arrive(*run)
                collector.merge(random_summary(source, capacity, 4))
            before = told(collector)
            for index in range(len(collector) + 1):
                found = collector.preview((("insert", index, "a", 1),))
                self.check_value(collector.insert_at(index, "a"), found)
                collector.undo()
                self.check_value(told(collector), before)


class ErrorsTest(LateTest):
    ORDER = (("a", 2), ("b", 1))

    def test_no_start(self):
        for thing in NO_SUMMARIES:
            for rest in ((self.ORDER, 0, "a"), (None, -1, ""), ((), 5, "a")):
                self.check_raises(NotASummary, {"value": thing}, late_change, thing, *rest)

    def test_no_order(self):
        for rest in ((0, "a"), (-1, ""), (None, None)):
            for thing in NO_TUPLES:
                self.check_raises(InvalidOrder, {"index": None}, late_change, Summary(2), thing, *rest)
            for thing, index in spoiled_orders()[::2]:
                self.check_raises(InvalidOrder, {"index": index}, late_change, Summary(2), thing, *rest)

    def test_no_index(self):
        wrong = [thing for thing in WRONG_COUNTS if repr(thing) != "0"] + [3, 4, SIXTY]
        for index in wrong:
            for name in ("a", "", None):
                self.check_raises(InvalidIndex, {"index": index}, late_change, Summary(2), self.ORDER, index, name)
        self.check_raises(InvalidIndex, {"index": 1}, late_change, Summary(2), (), 1, "a")

    def test_no_name(self):
        for name in WRONG_NAMES:
            for index in range(3):
                self.check_raises(InvalidName, {"name": name}, late_change, Summary(2), self.ORDER, index, name)
                named = {"name": name, "index": index, "order": self.ORDER, "start": Summary(8)}
                self.check_raises(InvalidName, {"name": name}, late_change, **named)
