"""Promises 51 to 56: merge plans and the summaries to which they lead."""

import inspect

from tallyplans.errors import CapacitiesDiffer, InvalidCapacity, InvalidCounts, InvalidPlan, NotASummary
from tallyplans.merging import find_plan, is_plan, merge_obstacle, mergeable, plan_arrivals, plan_result
from tallyplans.orders import is_order
from tallyplans.summaries import Summary
from tests.helpers import TallyTest
from tests.reference import loss_dict, played_singly, random_counts, random_order, scaled, seeded, small_counts
from tests.references import all_merged, first_merge_obstacle, merged_counts, plan_reached
from tests.samples import (
    CAPACITIES, NO_SUMMARIES, NO_TUPLES, SIXTY, WRONG_CAPACITIES, counts_of, names_as_order, names_of, nested,
    spoiled_counts, spoiled_orders, spoiled_plans,
)

GOOD_PLANS = [
    (), ((),), ((), ()), ((),) * 400, ((("a", 1),),) * 400, ((("a", 1),) * 1000,), ((("a", 1), ("b", 2)) * 500,) * 3,
    (counts_of(12),), (counts_of(12),) * 400, tuple(((name, SIXTY),) for name in names_of(12)),
    ((("a", 2), ("b", 1)), (("c", 1), ("a", 4))), (names_as_order(12)[:7], (), names_as_order(12)[5:]),
]


def random_plan(source, orders, runs, most, names=None):
    """Return a merge plan of so many orders."""
    names = names or names_of(12)
    return tuple(random_order(source, names, source.randint(0, runs), most) for _ in range(orders))


class ExamplesTest(TallyTest):
    def test_plans(self):
        plan = ((("a", 2), ("b", 1)), (("c", 1), ("a", 4)))
        found = [is_plan(plan), is_plan([]), plan_arrivals(plan), plan_result(2, plan).counts]
        self.check_value(found, [True, False, (("a", 6), ("b", 1), ("c", 1)), (("a", 5),)])
        self.check_raises(InvalidPlan, {"index": 1}, plan_result, 2, ((("a", 1),), (("b", 0),)))

    def test_ends(self):
        arrivals = (("a", 2), ("b", 2), ("c", 2), ("d", 2))
        plan = find_plan(2, arrivals, Summary(2))
        found = [mergeable(2, arrivals, Summary(2)), plan_result(2, plan).counts]
        self.check_value(found, [True, ()])
        self.check_value(merge_obstacle(2, arrivals, Summary(2, (("a", 2),))), None)
        found = merge_obstacle(2, (("a", 5), ("b", 1)), Summary(2, (("b", 1),)))
        self.check_value(found, ("range", 5, 1))
        self.check_value(find_plan(2, (("a", 1),), Summary(2, (("b", 1),))), None)


class PlansTest(TallyTest):
    def test_good_plans(self):
        for plan in GOOD_PLANS:
            self.assertIs(is_plan(plan), True)
            self.assertIs(is_plan(thing=plan), True)

    def test_any_other_value(self):
        for thing in NO_TUPLES + [nested(13), (nested(12),), Summary(1), (Summary(1),), ((Summary(1),),)]:
            self.assertIs(is_plan(thing), False)
            if not isinstance(thing, tuple):
                self.assertIs(is_plan((thing,)), False)
        for order, _ in spoiled_orders():
            self.assertIs(is_plan((order,)), False)
            self.assertIs(is_plan(((("a", 1),), order)), False)

    def test_spoiled_plans(self):
        for plan, _ in spoiled_plans():
            self.assertIs(is_plan(plan), False)

    def test_at_the_limits(self):
        self.assertIs(is_plan((names_as_order(12),) * 401), False)
        self.assertIs(is_plan(((),) * 401), False)
        self.assertIs(is_plan(((("a", 1),) * 1001,)), False)
        self.assertIs(is_plan((names_as_order(6), names_as_order(13)[6:])), False)
        self.assertIs(is_plan((names_as_order(13),)), False)
        self.assertIs(is_plan(list(GOOD_PLANS[-2])), False)
        self.assertIs(is_plan(([("a", 1)],)), False)
        self.assertIs(is_plan(((["a", 1],),)), False)

    def test_arrivals(self):
        source = seeded(51)
        for plan in GOOD_PLANS + [random_plan(source, many, 9, SIXTY) for many in (1, 2, 30, 400)]:
            sums = {}
            for order in plan:
                for name, times in order:
                    sums[name] = sums.get(name, 0) + times
            self.check_value(plan_arrivals(plan), tuple(sorted(sums.items())))
            self.check_value(plan_arrivals(plan=plan), plan_arrivals(plan))
            self.assertIs(is_plan((plan_arrivals(plan),)), True)


class ResultTest(TallyTest):
    def expected(self, capacity, plan):
        """Return the counts to which the plan leads, in single arrivals and by point 19."""
        result = ()
        for order in plan:
            single, _ = played_singly(capacity, (), order)
            result = merged_counts(capacity, result, single)
        return result

    def test_small_counts(self):
        source = seeded(52)
        for capacity in CAPACITIES:
            for orders in (0, 1, 2, 3, 8, 40, 400):
                for names in (names_of(3), names_of(12)):
                    plan = random_plan(source, orders, 8, 4, names)
                    expected = Summary(capacity, self.expected(capacity, plan))
                    self.check_value(plan_result(capacity, plan), expected)
                    self.check_value(plan_result(plan=plan, capacity=capacity), expected)

    def test_large_counts(self):
        source = seeded(53)
        for capacity in CAPACITIES:
            for orders in (1, 2, 8, 60):
                plan = random_plan(source, orders, 8, 5)
                for factor in (10 ** 30, SIXTY // 10):
                    large = tuple(scaled(order, factor) for order in plan)
                    expected = Summary(capacity, scaled(self.expected(capacity, plan), factor))
                    self.check_value(plan_result(capacity, large), expected)

    def test_from_the_left(self):
        # Merged from the right, this leads to something else.
        found = set()
        for plan in [((("a", 1),), (("b", 1),), (("c", 1),)), ((("c", 1),), (("b", 1),), (("a", 1),))]:
            found.add(plan_result(1, plan).counts)
        self.assertEqual(found, {(("c", 1),), (("a", 1),)})

    def test_empty_plans(self):
        for capacity in CAPACITIES:
            for plan in ((), ((),), ((),) * 400):
                self.check_value(plan_result(capacity, plan), Summary(capacity))
            for at in (0, 7, 399):
                plan = ((),) * at + (counts_of(capacity),) + ((),) * (399 - at)
                self.check_value(plan_result(capacity, plan), Summary(capacity, counts_of(capacity)))


class ObstacleTest(TallyTest):
    def check_end(self, capacity, arrivals, end, expected):
        last = Summary(capacity, end)
        self.check_value(merge_obstacle(capacity, arrivals, last), expected)
        self.check_value(merge_obstacle(end=last, arrivals=arrivals, capacity=capacity), expected)
        self.assertIs(mergeable(capacity, arrivals, last), expected is None)
        self.assertIs(mergeable(end=last, arrivals=arrivals, capacity=capacity), expected is None)
        if expected is not None:
            self.assertIsNone(find_plan(capacity, arrivals, last))

    def test_small(self):
        kinds = set()
        for capacity, names, most in ((1, "abc", 4), (2, "abc", 3), (2, "abcd", 2), (3, "abcde", 1), (8, "abc", 2)):
            for arrivals in small_counts(names, most):
                for end in small_counts(names, most, capacity):
                    expected = first_merge_obstacle(capacity, arrivals, end)
                    self.assertEqual(expected is None, plan_reached(capacity, arrivals, end))
                    self.check_end(capacity, arrivals, end, expected)
                    kinds.add(expected and expected[0])
        self.assertEqual(kinds, {None, "gain", "range"})

    def test_multiplied(self):
        source = seeded(54)
        kinds = set()
        for _ in range(600):
            capacity = source.choice(CAPACITIES)
            names = names_of(12)[:source.randint(1, 12)]
            arrivals = random_counts(source, names, source.choice([1, 4, 9]))
            end = tuple((name, source.randint(1, count)) for name, count in arrivals)
            end = tuple(sorted(source.sample(end, source.randint(0, min(capacity, len(end))))))
            expected = first_merge_obstacle(capacity, arrivals, end)
            self.check_end(capacity, arrivals, end, expected)
            kinds.add((capacity, expected is None))
            for factor in (10 ** 29, 2 * capacity * (capacity + 1) * 10 ** 29):
                large = [scaled(row, factor) for row in (arrivals, end)]
                found = merge_obstacle(capacity, large[0], Summary(capacity, large[1]))
                units = sum(loss_dict((), *large).values())
                longest = max(loss_dict((), *large).values())
                least = max(longest, -(-units // (2 * capacity)))
                reason = ("range", least, units // (capacity + 1))
                self.check_value(found, reason if reason[1] > reason[2] else None)
        self.assertEqual(len(kinds), 16)

    def test_gain_comes_first_with_the_least_name(self):
        self.check_end(3, (("a", 9), ("c", 1)), (("b", 1), ("c", 2), ("d", 1)), ("gain", "b"))
        self.check_end(3, (("a", 9), ("c", 1)), (("c", SIXTY),), ("gain", "c"))
        self.check_end(1, (), (("zz", 1),), ("gain", "zz"))

    def test_bounds_of_the_range(self):
        big = 10 ** 29
        for capacity in CAPACITIES:
            names = names_of(12)[:min(2 * capacity, 12)]
            equal = tuple((name, big) for name in names)
            self.check_end(capacity, equal, (), None)
            if 2 * capacity < 12:
                more = equal + (("z", 1),)
                least, greatest = big + 1, (2 * capacity * big + 1) // (capacity + 1)
                self.check_end(capacity, more, (), None if least <= greatest else ("range", least, greatest))
            exact = tuple((name, big) for name in names_of(12)[:capacity + 1])
            self.check_end(capacity, exact, (), None)
            short = exact[:-1] + ((exact[-1][0], big - 1),)
            self.check_end(capacity, short, (), ("range", big, big - 1))
        self.check_end(1, (("a", 1),), (), ("range", 1, 0))
        self.check_end(1, (), (), None)


class SmallCasesTest(TallyTest):
    """All orders of all parts, and all ways to merge them, are gone through here."""

    CASES = [
        (1, "abc", 3, 7), (1, "abcd", 2, 6), (2, "abc", 3, 7), (2, "abcd", 2, 7), (2, "abcde", 2, 6),
        (3, "abcde", 2, 7), (3, "abcdef", 1, 6), (4, "abcdef", 1, 6),
    ]

    def test_all_ends(self):
        for capacity, names, most, longest in self.CASES:
            for arrivals in small_counts(names, most):
                if sum(count for _, count in arrivals) > longest:
                    continue
                found = all_merged(capacity, arrivals, True)
                self.assertEqual(all_merged(capacity, arrivals, False), found)
                for end in small_counts(names, most, capacity):
                    self.check_end(capacity, arrivals, end, end in found)

    def check_end(self, capacity, arrivals, end, expected):
        self.assertIs(mergeable(capacity, arrivals, Summary(capacity, end)), expected)
        plan = find_plan(capacity, arrivals, Summary(capacity, end))
        self.assertEqual(plan is not None, expected)
        if plan is not None:
            self.assertIs(is_plan(plan), True)
            self.assertEqual(plan_arrivals(plan), arrivals)
            self.assertEqual(plan_result(capacity, plan).counts, end)


class FindPlanTest(TallyTest):
    def check_plan(self, capacity, arrivals, end):
        """Check the plan for an end that is mergeable."""
        last = Summary(capacity, end)
        self.assertIsNone(merge_obstacle(capacity, arrivals, last))
        self.assertIs(mergeable(capacity, arrivals, last), True)
        plan = find_plan(capacity, arrivals, last)
        self.check_value(find_plan(end=last, capacity=capacity, arrivals=arrivals), plan)
        self.assertIs(is_plan(plan), True)
        self.assertLessEqual(len(plan), 400)
        self.assertTrue(all(is_order(order) and len(order) <= 1000 for order in plan))
        self.check_value(plan_arrivals(plan), arrivals)
        self.check_value(plan_result(capacity, plan), last)

    def test_what_plans_lead_to(self):
        source = seeded(55)
        for capacity in CAPACITIES:
            for most in (1, 4, 10 ** 30, SIXTY // 100):
                for orders in (0, 1, 2, 5, 30):
                    for names in (names_of(12), names_of(12)[:capacity + 1], names_of(5)):
                        plan = random_plan(source, orders, 12, most, names)
                        self.check_plan(capacity, plan_arrivals(plan), plan_result(capacity, plan).counts)

    def test_losses_at_the_bounds(self):
        source = seeded(56)
        seen = set()
        for capacity in CAPACITIES:
            for _ in range(80):
                depth = source.choice([1, 2, 5, 10 ** 30, SIXTY // 12])
                names = names_of(12)[:source.randint(min(capacity + 1, 12), 12)]
                most = min(2 * capacity, len(names)) * depth
                least = (capacity + 1) * depth
                units = source.choice([least, most, source.randint(least, most)])
                lost = {}
                for at, name in enumerate(names):
                    low = max(0, units - depth * (len(names) - at - 1))
                    lost[name] = source.choice([low, min(depth, units), source.randint(low, min(depth, units))])
                    units -= lost[name]
                end = dict(random_counts(source, source.sample(names, source.randint(0, capacity)), depth))
                arrivals = {name: lost[name] + end.get(name, 0) for name in names}
                arrivals = tuple((name, arrivals[name]) for name in names if arrivals[name])
                self.check_plan(capacity, arrivals, tuple(sorted(end.items())))
                seen.add((capacity, len(arrivals)))
        self.assertIn((8, 12), seen)

    def test_nothing_lost(self):
        for capacity in CAPACITIES:
            for many in range(capacity + 1):
                self.check_plan(capacity, counts_of(many), counts_of(many))

    def test_more_than_single_orders_reach(self):
        # Four names cannot all lose in two reductions, but in one merge.
        arrivals = (("a", 2), ("b", 2), ("c", 2), ("d", 2))
        self.check_plan(2, arrivals, ())
        for capacity in range(2, 7):
            names = names_of(2 * capacity)
            self.check_plan(capacity, tuple((name, SIXTY) for name in names), ())
            self.check_plan(capacity, tuple((name, 1) for name in names), ())

    def test_values_of_any_size(self):
        counts = Summary(3, (("a", 5), ("b", 3), ("c", 1)))
        for _ in range(3000):
            counts = counts.merged(counts)
        big = 2 ** 3000
        plan = (counts.counts, (("d", big), ("e", 2 * big)), (("f", 3 * big),))
        end = plan_result(3, plan)
        found = find_plan(3, plan_arrivals(plan), end)
        self.assertTrue(plan_result(3, found) == end and plan_arrivals(found) == plan_arrivals(plan))


class ErrorsTest(TallyTest):
    CALLS = [merge_obstacle, mergeable, find_plan]

    def test_parameters(self):
        for call in self.CALLS:
            self.assertEqual(list(inspect.signature(call).parameters), ["capacity", "arrivals", "end"])
        self.assertEqual(list(inspect.signature(plan_result).parameters), ["capacity", "plan"])
        self.assertEqual(list(inspect.signature(plan_arrivals).parameters), ["plan"])
        self.assertEqual(list(inspect.signature(is_plan).parameters), ["thing"])

    def test_no_capacity(self):
        for capacity in WRONG_CAPACITIES:
            fields = {"capacity": capacity}
            for plan in ((), None, (None,), [()]):
                self.check_raises(InvalidCapacity, fields, plan_result, capacity, plan)
            for call in self.CALLS:
                self.check_raises(InvalidCapacity, fields, call, capacity, (("a", 1),), Summary(1))
                self.check_raises(InvalidCapacity, fields, call, end=None, arrivals=None, capacity=capacity)

    def test_no_plan(self):
        for thing in NO_TUPLES:
            self.check_raises(InvalidPlan, {"index": None}, plan_result, 2, thing)
            self.check_raises(InvalidPlan, {"index": None}, plan_arrivals, thing)
        for thing, index in spoiled_plans():
            self.check_raises(InvalidPlan, {"index": index}, plan_result, 2, thing)
            self.check_raises(InvalidPlan, {"index": index}, plan_arrivals, plan=thing)

    def test_no_arrivals(self):
        for call in self.CALLS:
            for end in (Summary(2), Summary(3), None):
                for thing in NO_TUPLES:
                    self.check_raises(InvalidCounts, {"index": None}, call, 2, thing, end)
                self.check_raises(InvalidCounts, {"index": 12}, call, 2, counts_of(13), end)
            for thing, index in spoiled_counts()[::5]:
                self.check_raises(InvalidCounts, {"index": index}, call, 2, thing, None)

    def test_no_end(self):
        for call in self.CALLS:
            for thing in NO_SUMMARIES:
                self.check_raises(NotASummary, {"value": thing}, call, 2, (("a", 1),), thing)
            for one in CAPACITIES:
                for other in CAPACITIES:
                    if one != other:
                        end = Summary(other, (("a", 1),))
                        self.check_raises(CapacitiesDiffer, {"capacity": other}, call, one, (("a", 1),), end)

    def test_arguments_stay(self):
        arrivals, end = (("a", 3), ("b", 2), ("c", 2)), Summary(2, (("a", 1),))
        for _ in range(2):
            self.assertEqual(plan_result(2, find_plan(2, arrivals, end)), end)
            self.check_value([arrivals, end], [(("a", 3), ("b", 2), ("c", 2)), Summary(2, (("a", 1),))])
