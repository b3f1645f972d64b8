"""Promises 67 to 75: what holds over the whole program, with true counts, merging, replacing and collecting."""

import itertools

from tallyplans.collecting import Collector
from tallyplans.counts import added
from tallyplans.errors import InvalidSize
from tallyplans.merging import find_plan, merge_obstacle, mergeable, plan_arrivals, plan_result
from tallyplans.orders import arrivals_of
from tallyplans.outcomes import find_order, losses, obstacle
from tallyplans.ranges import count_range, reduction_range
from tallyplans.replacing import Replacing
from tallyplans.summaries import Summary
from tallyplans.truth import fits, most_ahead, reduction_count, surely_among, surely_more, true_range
from tests.collectors import by_method, random_actions, told
from tests.helpers import TallyTest
from tests.reference import all_outcomes, random_counts, random_order, scaled, seeded, small_counts
from tests.references import fitting_counts, replaced_singly
from tests.samples import CAPACITIES, SIXTY, names_of


class TruthTest(TallyTest):
    def test_true_counts_that_fit_are_those_of_orders(self):
        for capacity, names, most in ((1, "abc", 3), (2, "abc", 3), (2, "abcd", 2), (3, "abcd", 2)):
            sizes = {}
            for counts in small_counts(names, most):
                size = sum(count for _, count in counts)
                for end in all_outcomes(capacity, (), counts):
                    sizes.setdefault(size, set()).add((end, counts))
            for end in small_counts(names, most, capacity):
                for size in range(most * len(names) + 1):
                    self.check_size(Summary(capacity, end), size, sizes[size], small_counts(names, most))

    def check_size(self, summary, size, reached, rows):
        """Check which counts of the rows fit, by the pairs of an end and counts that orders of this size reach."""
        turned = [counts for counts in rows if (summary.counts, counts) in reached]
        try:
            reduction_count(summary, size)
        except InvalidSize:
            self.assertEqual(turned, [])
            return
        self.assertEqual([counts for counts in rows if fits(summary, size, counts)], turned)

    def test_orders_of_all_true_counts(self):
        source = seeded(67)
        for capacity in CAPACITIES:
            for most in (1, 3, 10 ** 30, SIXTY // 40):
                for runs in (0, 1, 6, 40):
                    order = random_order(source, names_of(12), runs, most)
                    summary, arrivals = Summary(capacity).play(order), arrivals_of(order)
                    size = sum(count for _, count in arrivals)
                    self.assertIs(fits(summary, size, arrivals), True)
                    for name, count in arrivals:
                        least, greatest = true_range(summary, size, name)
                        self.assertTrue(least <= count <= greatest)
                    found = find_order(Summary(capacity), arrivals, summary)
                    self.assertEqual(Summary(capacity).play(found), summary)

    def test_what_is_sure(self):
        for capacity, falls, most in ((1, 0, 3), (1, 1, 3), (1, 2, 3), (2, 0, 2), (2, 1, 3), (2, 2, 2)):
            for end in small_counts("abc", most, capacity):
                summary = Summary(capacity, end)
                size = summary.kept() + falls * (capacity + 1)
                fresh = names_of(20)[3:3 + falls * (capacity + 1)]
                rows = [dict(row) for row in fitting_counts(capacity, end, falls, ["a", "b", "zeta", *fresh])]
                for one, other in (("a", "b"), ("b", "a"), ("a", "zeta"), ("zeta", "a")):
                    sure = all(row.get(one, 0) > row.get(other, 0) for row in rows)
                    self.assertIs(surely_more(summary, size, one, other), sure)
                for name in ("a", "b"):
                    ahead = [sum(count > row.get(name, 0) for count in row.values()) for row in rows]
                    self.assertEqual(most_ahead(summary, size, name), max(ahead))
                    for number in range(1, max(ahead) + 3):
                        sure = all(found < number for found in ahead)
                        self.assertIs(surely_among(summary, size, name, number), sure)


class MergingTest(TallyTest):
    def parts(self, source, capacity, many, most):
        """Return orders of at most twelve names together."""
        names = names_of(12)[:source.randint(1, 12)]
        return [random_order(source, names, source.randint(0, 9), most) for _ in range(many)]

    def grouped(self, source, summaries):
        """Return the summaries merged in some grouping and some order."""
        rows = list(summaries)
        while len(rows) > 1:
            one = rows.pop(source.randrange(len(rows)))
            other = rows.pop(source.randrange(len(rows)))
            rows.append(one.merged(other))
        return rows[0]

    def test_any_grouping(self):
        source = seeded(69)
        for capacity in CAPACITIES:
            for most in (1, 4, 10 ** 30, SIXTY // 100):
                for many in (1, 2, 3, 7, 20):
                    orders = self.parts(source, capacity, many, most)
                    arrivals = plan_arrivals(tuple(orders))
                    units = sum(count for _, count in arrivals)
                    for _ in range(4):
                        end = self.grouped(source, [Summary(capacity).play(order) for order in orders])
                        self.assertIsNone(merge_obstacle(capacity, arrivals, end))
                        self.assertIs(mergeable(capacity, arrivals, end), True)
                        plan = find_plan(capacity, arrivals, end)
                        self.assertEqual((plan_arrivals(plan), plan_result(capacity, plan)), (arrivals, end))
                        for _, loss in losses(Summary(capacity), arrivals, end):
                            self.assertTrue(0 < loss * (capacity + 1) <= units)

    def test_what_one_order_leads_to(self):
        source = seeded(70)
        for capacity in CAPACITIES:
            for most in (1, 5, SIXTY // 50):
                order = random_order(source, names_of(12), 30, most)
                end, units = Summary(capacity).play(order), sum(times for _, times in order)
                self.assertIs(mergeable(capacity, arrivals_of(order), end), True)
                for _, loss in losses(Summary(capacity), arrivals_of(order), end):
                    self.assertTrue(0 < loss * (capacity + 1) <= units)

    def test_neutral_symmetric_and_doubled(self):
        source = seeded(74)
        for capacity in CAPACITIES:
            rows = [Summary(capacity)]
            for most in (1, 3, SIXTY):
                for pairs in range(1, capacity + 1):
                    rows.append(Summary(capacity, random_counts(source, source.sample(names_of(14), pairs), most)))
            for one, other in itertools.product(rows, repeat=2):
                self.assertEqual(one.merged(other), other.merged(one))
                for factor in (2, 10 ** 25):
                    times = [Summary(capacity, scaled(row.counts, factor)) for row in (one, other)]
                    merged = Summary(capacity, scaled(one.merged(other).counts, factor))
                    self.assertEqual(times[0].merged(times[1]), merged)
            for row in rows:
                self.assertEqual([row.merged(Summary(capacity)), Summary(capacity).merged(row)], [row, row])
                self.assertEqual(row.merged(row).counts, scaled(row.counts, 2))
                self.assertEqual(row.merged(row), Summary(capacity, added(row.counts, row.counts)))

    def test_multiplied_plans(self):
        source = seeded(75)
        for capacity in CAPACITIES:
            plan = tuple(self.parts(source, capacity, 6, 5))
            end = plan_result(capacity, plan)
            for factor in (3, 10 ** 40):
                large = tuple(scaled(order, factor) for order in plan)
                self.assertEqual(plan_result(capacity, large).counts, scaled(end.counts, factor))


class ReplacingTest(TallyTest):
    def test_in_step_behind_each_run(self):
        source = seeded(71)
        for slots in range(2, 10):
            for most in (1, 3, 10 ** 30):
                for pairs in (0, slots - 1, slots):
                    counts = random_counts(source, source.sample(names_of(14), pairs), most * 2)
                    one, other = Replacing(slots, counts), Replacing(slots, counts).above_least()
                    for run in random_order(source, names_of(14)[:12], 60, most):
                        one, other = one.arrive(*run), other.arrive(*run)
                        self.check_value(one.above_least(), other)

    def test_in_step_behind_each_arrival(self):
        for counts in small_counts("abc", 3, 3):
            for names in itertools.product("abcd", repeat=4):
                one = Replacing(3, counts)
                other = one.above_least()
                for name in names:
                    one, other = one.arrive(name), other.arrive(name)
                    self.assertEqual(one.above_least(), other)
                order = tuple((name, 1) for name in names)
                self.assertEqual(one.counts, replaced_singly(3, counts, order))
                self.assertEqual(Replacing(3, counts).play(order), one)

    def test_whole_orders(self):
        source = seeded(72)
        for slots in range(2, 10):
            for most in (1, 9, SIXTY):
                counts = random_counts(source, names_of(14)[:slots], most)
                order = random_order(source, names_of(14)[2:], 1000, most)
                before = Replacing(slots, counts)
                self.check_value(before.play(order).above_least(), before.above_least().play(order))


class NamesTest(TallyTest):
    def renamed(self, counts, names):
        return tuple((names[name], count) for name, count in counts)

    def test_other_names_in_the_same_order(self):
        source = seeded(73)
        for capacity in CAPACITIES:
            for most in (1, 5, 10 ** 30):
                old = names_of(14)
                begins = sorted("".join(source.choice("abyz") for _ in range(7)) for _ in old)
                # The last letters ascend, so the names do where their beginnings are the same.
                new = [begin + letter for begin, letter in zip(begins, "abcdefghijklmn")]
                self.check_names(source, capacity, most, dict(zip(old, new)))

    def check_names(self, source, capacity, most, names):
        old = sorted(names)
        start = Summary(capacity, random_counts(source, source.sample(old, capacity), most))
        other = Summary(capacity, self.renamed(start.counts, names))
        order = random_order(source, old[:12], 20, most)
        same = self.renamed(order, names)
        arrivals, end = arrivals_of(order), start.play(order)
        self.check_value(self.renamed(arrivals, names), arrivals_of(same))
        last = other.play(same)
        self.check_value(self.renamed(end.counts, names), last.counts)
        found = find_order(start, arrivals, end)
        self.check_value(self.renamed(found, names), find_order(other, arrivals_of(same), last))
        slots = Replacing(capacity + 1, start.counts).play(order)
        check = Replacing(capacity + 1, other.counts).play(same)
        self.check_value(self.renamed(slots.counts, names), check.counts)
        self.check_value(reduction_range(capacity, arrivals), reduction_range(capacity, arrivals_of(same)))
        for name in old:
            found = count_range(capacity, arrivals_of(same), names[name])
            self.check_value(count_range(capacity, arrivals, name), found)
        for row in (start, end, Summary(capacity)):
            new = Summary(capacity, self.renamed(row.counts, names))
            one, two = obstacle(start, arrivals, row), obstacle(other, arrivals_of(same), new)
            self.check_value(tuple(names.get(word, word) for word in one or ()), two or ())
            one, two = merge_obstacle(capacity, arrivals, row), merge_obstacle(capacity, arrivals_of(same), new)
            self.check_value(tuple(names.get(word, word) for word in one or ()), two or ())
            plan = find_plan(capacity, arrivals, row) or ()
            check = find_plan(capacity, arrivals_of(same), new) or ()
            self.check_value(tuple(self.renamed(part, names) for part in plan), check)
            size = row.kept() + 3 * (capacity + 1)
            for name in old:
                found = [call(row, size, name) for call in (true_range, most_ahead)]
                self.check_value(found, [call(new, size, names[name]) for call in (true_range, most_ahead)])


class CollectingTest(TallyTest):
    def built(self, source, capacity, actions):
        """Return collectors to which the actions were done in several ways."""
        rows = [Collector(capacity) for _ in range(4)]
        for action in actions:
            by_method(rows[0], action)
        rows[1].do_all(tuple(actions))
        at = 0
        while at < len(actions):
            many = source.randint(0, 5)
            rows[2].do_all(tuple(actions[at:at + many]))
            at += many
        for action in actions:
            detour = [("start", Summary(capacity)), ("start", Summary(capacity, (("z", 1),)))]
            if len(rows[3]) < 100:
                detour.append(("insert", 0, "a", 7))
            rows[3].do_all(tuple(detour))
            for _ in detour:
                rows[3].undo()
            rows[3].do(action)
        return rows

    def test_equal_collectors(self):
        source = seeded(76)
        for capacity in CAPACITIES:
            for many, most in ((0, 1), (7, 3), (120, SIXTY)):
                actions = random_actions(source, capacity, many, most)
                rows = self.built(source, capacity, actions)
                for one, other in itertools.product(rows, repeat=2):
                    self.assertIs(one == other, True)
                    ones, others = told(one), told(other)
                    # The number of attempts is none of the state.
                    self.check_value(ones[:-2] + ones[-1:], others[:-2] + others[-1:])
                self.check_value(rows[0].history(), tuple(actions))
