"""Promises 20 to 26: losses, obstacles, and orders that lead from a start to an end."""

import copy
import inspect

from tallyplans.errors import CapacitiesDiffer, InvalidCounts, NotASummary
from tallyplans.orders import arrivals_of, is_order
from tallyplans.outcomes import find_order, losses, obstacle, possible
from tallyplans.summaries import Summary
from tests.helpers import TallyTest
from tests.reference import (
    all_outcomes, first_obstacle, is_possible, loss_dict, random_columns, random_counts, random_order, scaled, seeded,
    small_counts,
)
from tests.samples import CAPACITIES, NO_SUMMARIES, NO_TUPLES, SIXTY, counts_of, names_of, spoiled_counts

# Capacity, names, greatest count at the start and of the arrivals.
SMALL_CASES = [
    (1, "ab", 3, 3), (1, "abc", 2, 2), (1, "abcd", 1, 2), (2, "abc", 2, 2), (2, "abcd", 1, 1), (3, "abcd", 1, 1),
]

FACTORS = [10 ** 40, 10 ** 58 + 7]


class OutcomesTest(TallyTest):
    """What every test of outcomes needs."""

    def check_obstacle(self, capacity, start, arrivals, end):
        """Check obstacle and possible against the words of the document; return the obstacle."""
        found = obstacle(Summary(capacity, start), arrivals, Summary(capacity, end))
        self.check_value(found, first_obstacle(capacity, start, arrivals, end))
        self.assertIs(possible(Summary(capacity, start), arrivals, Summary(capacity, end)), found is None)
        return found

    def check_order(self, capacity, start, arrivals, end):
        """Check an order for an end that is possible; return its number of runs."""
        first, last = Summary(capacity, start), Summary(capacity, end)
        order = find_order(first, arrivals, last)
        self.assertIs(is_order(order), True)
        self.check_value(arrivals_of(order), arrivals)
        self.check_value(first.play(order), last)
        self.check_value(find_order(first, arrivals, last), order)
        self.assertLessEqual(len(order), 1000)
        return len(order)

    def check_reached(self, start, order):
        """Check the end to which the order leads; return the number of runs of the order that is found."""
        end = start.play(order)
        self.assertIsNone(self.check_obstacle(start.capacity, start.counts, arrivals_of(order), end.counts))
        return self.check_order(start.capacity, start.counts, arrivals_of(order), end.counts)


class ExamplesTest(OutcomesTest):
    def test_losses(self):
        found = losses(Summary(2, (("a", 2),)), (("b", 3),), Summary(2, (("a", 1), ("b", 5))))
        self.check_value(found, (("a", 1), ("b", -2)))

    def test_obstacle(self):
        start = Summary(2)
        arrivals = (("a", 2), ("b", 1), ("c", 1))
        found = [obstacle(start, arrivals, Summary(2, (("a", 1),))), obstacle(start, arrivals, Summary(2, (("b", 1),)))]
        self.check_value(found, [None, ("many", "a")])
        start = Summary(2, (("a", 1), ("b", 1)))
        arrivals = (("c", 2), ("e", 2))
        found = [obstacle(start, arrivals, Summary(2)), obstacle(start, (("c", 1),), Summary(2, (("d", 1),)))]
        self.check_value(found, [("columns", 1, 4), ("gain", "d")])
        start = Summary(1, (("a", 5),))
        found = [obstacle(start, (("b", 2),), Summary(1, (("a", count),))) for count in (4, 5)]
        self.check_value(found, [("sum", 3), ("few", "a")])

    def test_possible(self):
        start = Summary(1, (("a", 5),))
        found = [possible(start, (("b", 2),), Summary(1, (("a", 3),))), possible(start, (("b", 2),), Summary(1))]
        self.check_value(found, [True, False])

    def test_find_order(self):
        start = Summary(1, (("a", 10 ** 30),))
        arrivals = (("b", 10 ** 30), ("c", 5))
        end = Summary(1, (("b", 5),))
        order = find_order(start, arrivals, end)
        self.check_value([start.play(order) == end, find_order(start, arrivals, Summary(1, (("b", 6),)))], [True, None])


class LossesTest(OutcomesTest):
    def check_losses(self, capacity, start, arrivals, end):
        lost = loss_dict(start, arrivals, end)
        expected = tuple((name, lost[name]) for name in sorted(lost) if lost[name])
        first, last = Summary(capacity, start), Summary(capacity, end)
        before = copy.deepcopy([start, arrivals, end])
        self.check_value(losses(first, arrivals, last), expected)
        self.check_value(losses(end=last, arrivals=arrivals, start=first), expected)
        self.check_value([first.counts, arrivals, last.counts], before)

    def test_small(self):
        for start in small_counts("abc", 2, 2):
            for arrivals in small_counts("abc", 1):
                for end in small_counts("abc", 3, 2):
                    self.check_losses(2, start, arrivals, end)

    def test_more_than_twelve_names(self):
        names = [letter * size for letter, size in zip("abcdefghijklmnopqrstuvwxyz", (1, 3, 8, 2) * 7)]
        source = seeded(20)
        for _ in range(50):
            start, end = (random_counts(source, source.sample(names, 8), SIXTY) for _ in range(2))
            self.check_losses(8, start, random_counts(source, source.sample(names, 12), SIXTY), end)
        one = tuple((name, 1) for name in "abcdefgh")
        other = tuple((name, 3) for name in "uvwxyz")
        arrivals = tuple((name, 2) for name in "ijklmnopqrst")
        found = losses(Summary(8, one), arrivals, Summary(8, other))
        self.check_value(found, one + arrivals + scaled(other, -1))

    def test_no_loss(self):
        counts = counts_of(8)
        self.check_value(losses(Summary(8), counts, Summary(8, counts)), ())
        self.check_value(losses(Summary(8, counts), (), Summary(8, counts)), ())
        self.check_value(losses(Summary(8), (), Summary(8)), ())


class SmallCasesTest(OutcomesTest):
    """All orders are gone through here."""

    def check_case(self, capacity, start, arrivals, ends):
        found = all_outcomes(capacity, start, arrivals)
        self.assertTrue(set(found) <= set(ends))
        for end in ends:
            first, last = Summary(capacity, start), Summary(capacity, end)
            why = self.check_obstacle(capacity, start, arrivals, end)
            self.assertEqual(why is None, end in found)
            self.assertEqual(is_possible(capacity, start, arrivals, end), end in found)
            order = find_order(first, arrivals, last)
            if end in found:
                self.assertEqual((arrivals_of(order), first.play(order)), (arrivals, last))
                self.assertEqual({first.reductions(order)}, found[end])
            else:
                self.assertIsNone(order)

    def test_all_ends(self):
        for capacity, names, most_start, most_arrivals in SMALL_CASES:
            ends = small_counts(names, most_start + most_arrivals, capacity)
            for start in small_counts(names, most_start, capacity):
                for arrivals in small_counts(names, most_arrivals):
                    self.check_case(capacity, start, arrivals, ends)

    def test_some_ends_of_longer_orders(self):
        source = seeded(21)
        for _ in range(150):
            capacity = source.randint(1, 4)
            names = "abcdef"[:source.randint(2, 6)]
            start = random_counts(source, source.sample(names, source.randint(0, min(capacity, len(names)))), 3)
            arrivals = arrivals_of(random_order(source, names, source.randint(0, 9), 1))
            found = all_outcomes(capacity, start, arrivals)
            ends = set(found)
            for end in sorted(found):
                for name, step in ((source.choice(names), source.choice([-2, -1, 1, 2])) for _ in range(4)):
                    near = dict(end)
                    near[name] = max(0, near.get(name, 0) + step)
                    near = tuple((item, count) for item, count in sorted(near.items()) if count)
                    if len(near) <= capacity:
                        ends.add(near)
            self.check_case(capacity, start, arrivals, sorted(ends))


class ObstaclesTest(OutcomesTest):
    def test_first_that_applies(self):
        rows = [
            (2, (), (), (("b", 1), ("c", 1)), ("gain", "b")),
            (2, (("a", 9),), (("z", 1),), (("b", 1), ("c", 1)), ("gain", "b")),
            (2, (("b", 3), ("c", 3)), (("d", 3),), (("b", 1), ("c", 1)), ("sum", 7)),
            (1, (), (("a", 1), ("b", 1), ("c", 1)), (), ("sum", 3)),
            (1, (("b", 5),), (("a", 3), ("c", 3)), (("b", 5),), ("few", "b")),
            (2, (("b", 5), ("c", 5)), (("a", 3),), (("b", 5), ("c", 5)), ("few", "b")),
            (2, (("b", 5), ("c", 5)), (("a", 3),), (("b", 4), ("c", 5)), ("sum", 4)),
            (2, (("b", 5), ("c", 5)), (("a", 3), ("d", 3)), (("b", 3), ("c", 5)), ("sum", 8)),
            (2, (("b", 5), ("c", 5)), (("a", 3), ("d", 4)), (("b", 3), ("c", 5)), ("few", "b")),
            (2, (("b", 5), ("c", 5)), (("a", 3), ("d", 3)), (("b", 2), ("c", 5)), ("few", "c")),
            (1, (), (("a", 3), ("b", 1)), (), ("many", "a")),
            (1, (), (("a", 1), ("b", 3)), (), ("many", "b")),
            (1, (), (("a", 3), ("b", 1), ("c", 4), ("d", 8)), (), ("sum", 16)),
        ]
        for capacity, start, arrivals, end, expected in rows[:-1]:
            self.check_value(self.check_obstacle(capacity, start, arrivals, end), expected)
            if expected[0] == "sum":
                continue
            for factor in FACTORS:
                found = self.check_obstacle(capacity, *[scaled(row, factor) for row in (start, arrivals, end)])
                self.check_value(found, expected)
        self.check_value(self.check_obstacle(1, *rows[-1][1:4]), None)

    def test_a_name_without_a_loss_has_few(self):
        # Nothing is lost of b, so it is not among the losses.
        self.check_value(obstacle(Summary(1, (("b", 1),)), (("a", 1), ("c", 1)), Summary(1, (("b", 1),))), ("few", "b"))

    def test_columns_of_large_counts(self):
        for size in (1, 10 ** 30, SIXTY // 2):
            start = (("a", size), ("b", size))
            arrivals = (("c", 2 * size), ("e", 2 * size))
            self.check_value(self.check_obstacle(2, start, arrivals, ()), ("columns", size, 4 * size))

    def test_columns_at_each_capacity(self):
        for capacity in CAPACITIES[1:]:
            for size in (1, 10 ** 30, SIXTY // 2):
                start = tuple((name, size) for name in "abcdefgh"[:capacity])
                most, rest = divmod(capacity + 2, 2)
                arrivals = tuple((name, 2 * size) for name in "mnopq"[:most]) + (("z", size),) * rest
                expected = ("columns", size, (capacity + most) * size)
                self.check_value(self.check_obstacle(capacity, start, arrivals, ()), expected)

    def test_least_columns(self):
        # With v = 1 and with v = 2 too many units are lost in the first columns.
        start, arrivals = (("a", 1), ("b", 2)), (("c", 3), ("d", 3))
        found = self.check_obstacle(2, start, arrivals, ())
        self.assertEqual(found[:2], ("columns", 1))

    def changed_case(self, source, capacity, most):
        """Return start, arrivals and end near an end that an order reaches."""
        start = random_counts(source, source.sample(names_of(12), source.randint(0, capacity)), most)
        order = random_order(source, names_of(12), source.choice([1, 3, 12]), most)
        arrivals, end = dict(arrivals_of(order)), dict(Summary(capacity, start).play(order).counts)
        change = source.randint(1, most) * source.choice([1, 1, capacity + 1])
        # The sum of the losses stays a multiple in most cases.
        for counts, sign in source.choice([((arrivals, 1), (end, 1)), ((arrivals, 1), (arrivals, -1)), ((end, -1),)]):
            name = source.choice(sorted(counts) or ["a"])
            counts[name] = counts.get(name, 0) + sign * change
        rows = [tuple((name, row[name]) for name in sorted(row) if row[name] > 0) for row in (arrivals, end)]
        return start, rows[0], rows[1][:capacity]

    def test_all_kinds_at_each_capacity(self):
        source = seeded(22)
        kinds = {}
        for most in (1, 2, 3, 6, 10 ** 30, SIXTY):
            for capacity in CAPACITIES * 30:
                cases = [random_columns(source, capacity, most), self.changed_case(source, capacity, most)]
                for case in [case for case in cases if case is not None]:
                    found = self.check_obstacle(capacity, *case)
                    kinds.setdefault(found and found[0], set()).add((capacity, most))
                    if found is None:
                        self.check_order(capacity, *case)
        for kind in ("gain", "sum", "few", "many", None):
            self.assertEqual({capacity for capacity, _ in kinds[kind]}, set(CAPACITIES), kind)
        self.assertEqual({capacity for capacity, _ in kinds["columns"]}, set(CAPACITIES[1:]))
        for kind in kinds:
            self.assertIn(SIXTY, {most for _, most in kinds[kind]}, kind)
        self.assertEqual(len(kinds), 6)


class LargeOrdersTest(OutcomesTest):
    def test_arrivals_and_starts_of_all_kinds(self):
        source = seeded(23)
        for capacity in CAPACITIES:
            for most in (3, 10 ** 9, SIXTY // 40):
                for pairs in sorted({0, 1, capacity // 2, capacity}):
                    for names in (names_of(12), names_of(20)[8:]):
                        start = Summary(capacity, random_counts(source, names_of(8)[:pairs], most))
                        self.check_reached(start, random_order(source, names, source.choice([1, 12, 40]), most))

    def test_ends_that_orders_of_1000_runs_reach(self):
        source = seeded(24)
        for capacity in CAPACITIES:
            start = Summary(capacity, random_counts(source, names_of(8)[:capacity], SIXTY))
            self.check_reached(start, random_order(source, names_of(12), 1000, SIXTY // 1000))
            self.check_reached(start, random_order(source, names_of(20)[8:], 1000, SIXTY // 1000))

    def test_many_columns_of_a_full_start(self):
        source = seeded(25)
        lengths = []
        for most in (5, 60, 10 ** 20, SIXTY):
            for _ in range(60):
                case = random_columns(source, 8, most)
                if case is not None and self.check_obstacle(8, *case) is None:
                    lengths.append(self.check_order(8, *case))
        self.assertGreater(len(lengths), 40)

    def test_counters_that_fall_one_after_the_other(self):
        step = SIXTY // 10
        names = [letter * 2 for letter in "abcdefgh"]
        for capacity in CAPACITIES:
            start = tuple((name, step * (at + 1)) for at, name in enumerate(names[:capacity]))
            for source in (seeded(26), seeded(27), seeded(28)):
                order = random_order(source, list("ijklmnopqrst"), 400, step // 20)
                self.check_reached(Summary(capacity, start), order)

    def test_twelve_names_that_are_all_lost(self):
        for capacity in CAPACITIES:
            for size in (1, 7, SIXTY // 12):
                # Equal names that fill all places of so many columns.
                arrivals = tuple((name, size * (capacity + 1)) for name in names_of(12))
                self.assertIsNone(self.check_obstacle(capacity, (), arrivals, ()))
                self.check_order(capacity, (), arrivals, ())
            start = tuple((name, 12 * (at + 1)) for at, name in enumerate("mnopqrst"[:capacity]))
            depth = 12 * 20
            places = depth * (capacity + 1) - sum(count for _, count in start)
            arrivals = [(name, places // 12) for name in "abcdefghijk"]
            arrivals = tuple(arrivals + [("l", places - 11 * (places // 12))])
            for factor in [1] + FACTORS:
                case = [scaled(row, factor) for row in (start, arrivals, ())]
                self.assertIsNone(self.check_obstacle(capacity, *case))
                self.check_order(capacity, *case)

    def test_no_arrivals(self):
        for capacity in CAPACITIES:
            counts = counts_of(capacity)
            self.check_value(find_order(Summary(capacity, counts), (), Summary(capacity, counts)), ())
            self.check_value(find_order(Summary(capacity), (), Summary(capacity)), ())
            self.check_value(find_order(Summary(capacity, counts), (), Summary(capacity)), None)
            self.check_value(find_order(Summary(capacity), (), Summary(capacity, counts)), None)

    def test_only_arrivals_that_are_counted(self):
        for capacity in CAPACITIES:
            counts = counts_of(capacity)
            self.check_order(capacity, (), counts, counts)
            self.check_order(capacity, counts, counts, scaled(counts, 2))

    def test_small_cases_multiplied(self):
        source = seeded(29)
        for _ in range(120):
            capacity = source.randint(1, 4)
            start = random_counts(source, source.sample("abcdef", source.randint(0, capacity)), 4)
            order = random_order(source, "abcdef", source.randint(0, 12), 2)
            end = Summary(capacity, start).play(order).counts
            for factor in [1] + FACTORS:
                rows = [scaled(row, factor) for row in (start, arrivals_of(order), end)]
                self.check_order(capacity, *rows)

    def test_values_of_any_size(self):
        counts = Summary(3, (("a", 5), ("b", 3), ("c", 1)))
        for _ in range(3000):
            counts = counts.merged(counts)
        order = scaled((("d", 2), ("e", 4), ("a", 1), ("d", 3)), 2 ** 3000)
        self.check_reached(counts, order)


class ErrorsTest(OutcomesTest):
    CALLS = [losses, obstacle, possible, find_order]

    def test_parameters(self):
        for call in self.CALLS:
            self.assertEqual(list(inspect.signature(call).parameters), ["start", "arrivals", "end"])

    def check_all_raise(self, error, fields, start, arrivals, end):
        for call in self.CALLS:
            self.check_raises(error, fields, call, start, arrivals, end)
            self.check_raises(error, fields, call, end=end, arrivals=arrivals, start=start)

    def test_no_start(self):
        for thing in NO_SUMMARIES:
            for arrivals, end in (((), Summary(1)), (None, None), ((("a", 0),), Summary(2))):
                self.check_all_raise(NotASummary, {"value": thing}, thing, arrivals, end)

    def test_no_arrivals(self):
        for end in (Summary(2), Summary(3), None, ()):
            for thing in NO_TUPLES:
                self.check_all_raise(InvalidCounts, {"index": None}, Summary(2), thing, end)
            self.check_all_raise(InvalidCounts, {"index": 12}, Summary(2), counts_of(13), end)
        for thing, index in spoiled_counts()[::3]:
            self.check_all_raise(InvalidCounts, {"index": index}, Summary(2), thing, None)

    def test_no_end(self):
        for thing in NO_SUMMARIES:
            self.check_all_raise(NotASummary, {"value": thing}, Summary(1), (("a", 1),), thing)

    def test_other_capacity(self):
        for one in CAPACITIES:
            for other in CAPACITIES:
                if one != other:
                    fields = {"capacity": other}
                    self.check_all_raise(CapacitiesDiffer, fields, Summary(one), (("a", 1),), Summary(other))

    def test_good_arguments_are_accepted_after_errors(self):
        start, arrivals, end = Summary(2, (("a", 1),)), (("a", 1), ("b", 1)), Summary(2, (("a", 2), ("b", 1)))
        other = Summary(3)
        for wrong in ((None, arrivals, end), (start, None, end), (start, arrivals, None), (start, arrivals, other)):
            for call in self.CALLS:
                with self.assertRaises((NotASummary, InvalidCounts, CapacitiesDiffer)):
                    call(*wrong)
            self.check_value([losses(start, arrivals, end), obstacle(start, arrivals, end)], [(), None])
            self.assertIs(possible(start, arrivals, end), True)
            self.check_order(2, start.counts, arrivals, end.counts)
