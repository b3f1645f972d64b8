"""Promises 27 to 33: what can happen over all orders of arrivals from the empty summary."""

import inspect

from tallyplans.errors import InvalidCapacity, InvalidCounts, InvalidName, InvalidNumber
from tallyplans.orders import arrivals_of, is_order
from tallyplans.ranges import can_end, count_range, order_for, order_with, reduction_range
from tallyplans.summaries import Summary
from tests.helpers import TallyTest
from tests.reference import all_outcomes, possible_depths, random_counts, scaled, seeded, small_counts
from tests.samples import (
    CAPACITIES, NO_TUPLES, SIXTY, WRONG_CAPACITIES, WRONG_NAMES, WRONG_NUMBERS, counts_of, names_of, spoiled_counts,
)

# Names and the greatest count; all orders of all these arrivals are gone through.
SMALL_CASES = [("ab", 5), ("abc", 3), ("abcd", 2)]


def large_arrivals():
    """Return arrivals with large counts: of no name to twelve names, equal ones and ones of different sizes."""
    source = seeded(30)
    rows = [(), counts_of(1), counts_of(5), counts_of(8), counts_of(9), counts_of(12)]
    for many in (1, 2, 3, 6, 9, 12):
        names = names_of(12)[-many:]
        rows.append(tuple((name, SIXTY) for name in names))
        rows.append(tuple((name, 10 ** (5 * at + 3)) for at, name in enumerate(names)))
        for most in (2, 10, 10 ** 30, SIXTY):
            rows.append(random_counts(source, names, most))
        rows.append(tuple((name, SIXTY // 2 + at) for at, name in enumerate(names)))
    return rows


LARGE_ARRIVALS = large_arrivals()


class RangesTest(TallyTest):
    """What every test of ranges needs."""

    def check_order(self, order, arrivals):
        self.assertIs(is_order(order), True)
        self.check_value(arrivals_of(order), arrivals)

    def check_with(self, capacity, arrivals, number, expected):
        """Check order_with for a number of reductions that is possible, or is not."""
        order = order_with(capacity, arrivals, number)
        self.check_value(order_with(reductions=number, arrivals=arrivals, capacity=capacity), order)
        if not expected:
            self.assertIsNone(order)
            return
        self.check_order(order, arrivals)
        self.check_value(Summary(capacity).reductions(order), number)

    def check_end(self, capacity, arrivals, name, count, expected):
        """Check can_end and order_for for a count with which the name can end, or can not."""
        self.assertIs(can_end(capacity, arrivals, name, count), expected)
        self.assertIs(can_end(count=count, name=name, arrivals=arrivals, capacity=capacity), expected)
        order = order_for(capacity, arrivals, name, count)
        self.check_value(order_for(count=count, name=name, arrivals=arrivals, capacity=capacity), order)
        if not expected:
            self.assertIsNone(order)
            return
        self.check_order(order, arrivals)
        self.check_value(Summary(capacity).play(order).tally(name), count)

    def check_count_range(self, capacity, arrivals, name, expected):
        self.check_value(count_range(capacity, arrivals, name), expected)
        self.check_value(count_range(name=name, arrivals=arrivals, capacity=capacity), expected)


class ExamplesTest(RangesTest):
    def test_reduction_range(self):
        self.check_value(reduction_range(1, (("a", 5), ("b", 5))), (5, 5))
        self.check_value(reduction_range(1, (("a", 2), ("b", 2), ("c", 1))), (2, 2))
        self.check_value(reduction_range(2, (("a", 4), ("b", 4), ("c", 2), ("d", 2))), (2, 4))
        self.check_value(reduction_range(3, (("a", 9), ("b", 9))), (0, 0))

    def test_order_with(self):
        arrivals = (("a", 4), ("b", 4), ("c", 2), ("d", 2))
        first = order_with(2, arrivals, 2)
        second = order_with(2, arrivals, 3)
        found = [Summary(2).reductions(first), Summary(2).reductions(second), order_with(2, arrivals, 5)]
        self.check_value(found, [2, 3, None])
        self.check_raises(InvalidNumber, {"number": -1}, order_with, 2, (("a", 4),), -1)

    def test_ends(self):
        arrivals = (("x", 10), ("y", 2), ("z", 2))
        found = [count_range(1, arrivals, "x"), can_end(1, arrivals, "x", 8), can_end(1, arrivals, "x", 7)]
        self.check_value(found + [count_range(1, arrivals, "y")], [(6, 10), True, False, (0, 0)])
        order = order_for(1, arrivals, "x", 8)
        self.check_value([Summary(1).play(order).counts, order_for(1, (("x", 10),), "x", 9)], [(("x", 8),), None])


class SmallCasesTest(RangesTest):
    """All orders are gone through here."""

    def check_case(self, capacity, arrivals):
        found = all_outcomes(capacity, (), arrivals)
        numbers = set().union(*found.values())
        self.check_value(reduction_range(capacity, arrivals), (min(numbers), max(numbers)))
        self.check_value(reduction_range(arrivals=arrivals, capacity=capacity), (min(numbers), max(numbers)))
        self.assertEqual(numbers, set(range(min(numbers), max(numbers) + 1)))
        for number in range(max(numbers) + 3):
            self.check_with(capacity, arrivals, number, number in numbers)
        for name in [name for name, _ in arrivals] + ["zeta"]:
            counts = {dict(end).get(name, 0) for end in found}
            self.check_count_range(capacity, arrivals, name, (min(counts), max(counts)))
            for count in range(dict(arrivals).get(name, 0) + 3):
                self.check_end(capacity, arrivals, name, count, count in counts)

    def test_all_arrivals(self):
        for names, most in SMALL_CASES:
            for arrivals in small_counts(names, most):
                for capacity in (1, 2, 3, 8):
                    self.check_case(capacity, arrivals)

    def test_more_names(self):
        for arrivals in [
            tuple((name, 1) for name in "abcdef"), (("a", 3), ("b", 1), ("c", 1), ("d", 1), ("e", 1)),
            (("a", 2), ("b", 2), ("c", 1), ("d", 1), ("e", 1)), (("a", 6), ("b", 3), ("c", 2)),
        ]:
            for capacity in (1, 2, 3, 4):
                self.check_case(capacity, arrivals)


class MiddleCasesTest(RangesTest):
    """Each set of names that keep a count is gone through here."""

    def test_random_arrivals(self):
        source = seeded(31)
        for _ in range(60):
            capacity = source.choice([1, 2, 3, 5, 8])
            names = source.sample(names_of(12), source.randint(1, 7))
            arrivals = random_counts(source, names, source.choice([2, 5, 12]))
            numbers = possible_depths(capacity, arrivals)
            self.check_value(reduction_range(capacity, arrivals), (min(numbers), max(numbers)))
            for number in range(max(numbers) + 2):
                self.check_with(capacity, arrivals, number, number in numbers)
            name = source.choice(names)
            counts = [at for at in range(dict(arrivals)[name] + 2) if possible_depths(capacity, arrivals, (name, at))]
            self.check_count_range(capacity, arrivals, name, (counts[0], counts[-1]))
            for count in range(dict(arrivals)[name] + 2):
                self.check_end(capacity, arrivals, name, count, count in counts)

    def test_one_great_count_among_twelve(self):
        arrivals = tuple((name, 40 if name == "ccc" else 1 + at % 2) for at, name in enumerate(names_of(12)))
        for capacity in (1, 2, 8):
            for name in ("ccc", "a", "bb"):
                arrived = dict(arrivals)[name]
                counts = [at for at in range(arrived + 1) if possible_depths(capacity, arrivals, (name, at))]
                self.check_count_range(capacity, arrivals, name, (counts[0], counts[-1]))
                for count in range(arrived + 1):
                    self.check_end(capacity, arrivals, name, count, count in counts)


class LargeCasesTest(RangesTest):
    def range_by_words(self, capacity, arrivals):
        """Return the range as the section on the checker describes it; the greatest number by halving."""
        counts = sorted([count for _, count in arrivals], reverse=True)
        place = counts[capacity] if len(counts) > capacity else 0
        least = max(place, -(-sum(counts[capacity:]) // (capacity + 1)))
        low, high = 0, sum(counts) + 1
        while high - low > 1:
            middle = (low + high) // 2
            if sum(min(count, middle) for count in counts) < middle * (capacity + 1):
                high = middle
            else:
                low = middle
        return (least, low)

    def test_reduction_range(self):
        for arrivals in LARGE_ARRIVALS:
            for capacity in CAPACITIES:
                self.check_value(reduction_range(capacity, arrivals), self.range_by_words(capacity, arrivals))

    def test_order_with(self):
        source = seeded(32)
        for arrivals in LARGE_ARRIVALS:
            for capacity in CAPACITIES:
                least, greatest = reduction_range(capacity, arrivals)
                for number in {least, greatest, (least + greatest) // 2, source.randint(least, greatest)}:
                    self.check_with(capacity, arrivals, number, True)
                for number in {least - 1, least // 2 - 1, greatest + 1, greatest + SIXTY, 2 * greatest + 1}:
                    if number >= 0:
                        self.check_with(capacity, arrivals, number, False)

    def test_counts(self):
        source = seeded(33)
        for arrivals in LARGE_ARRIVALS:
            for capacity in (1, 2, 5, 8):
                for name, arrived in arrivals[:1] + arrivals[-1:] + (("zeta", 0),):
                    least, greatest = count_range(capacity, arrivals, name)
                    self.assertLessEqual(greatest, arrived)
                    self.check_end(capacity, arrivals, name, least, True)
                    self.check_end(capacity, arrivals, name, greatest, True)
                    for count in {least - 1, least // 2, greatest + 1, (greatest + arrived + 1) // 2, arrived + 1}:
                        if count >= 0 and not least <= count <= greatest:
                            self.check_end(capacity, arrivals, name, count, False)
                    # Between the ends a count may be possible or not, and order_for agrees with can_end.
                    for count in {least + 1, greatest - 1, source.randint(least, greatest)}:
                        if least <= count <= greatest:
                            self.check_end(capacity, arrivals, name, count, can_end(capacity, arrivals, name, count))

    def test_what_orders_reach_can_be(self):
        source = seeded(34)
        for arrivals in LARGE_ARRIVALS:
            for capacity in (1, 3, 8):
                runs = [(name, count - count // 2) for name, count in arrivals]
                runs += [(name, count // 2) for name, count in arrivals if count > 1]
                source.shuffle(runs)
                end = Summary(capacity).play(tuple(runs))
                falls = Summary(capacity).reductions(tuple(runs))
                least, greatest = reduction_range(capacity, arrivals)
                self.assertTrue(least <= falls <= greatest)
                self.check_with(capacity, arrivals, falls, True)
                for name, _ in arrivals:
                    low, high = count_range(capacity, arrivals, name)
                    self.assertTrue(low <= end.tally(name) <= high)
                    self.check_end(capacity, arrivals, name, end.tally(name), True)

    def test_gaps_between_counts(self):
        # With one counter each reduction takes the name and one other, or two others.
        for size in (1, 10 ** 30, SIXTY // 10):
            arrivals = (("x", 10 * size), ("y", 2 * size), ("z", 2 * size))
            self.check_count_range(1, arrivals, "x", (6 * size, 10 * size))
            for count in (6 * size, 6 * size + 2, 8 * size, 10 * size - 2, 10 * size):
                self.check_end(1, arrivals, "x", count, True)
            for count in (6 * size - 1, 6 * size + 1, 8 * size + 1, 10 * size - 1, 10 * size + 1, 0, 1):
                self.check_end(1, arrivals, "x", count, False)

    def test_a_name_that_does_not_arrive(self):
        for arrivals in LARGE_ARRIVALS:
            for capacity in CAPACITIES:
                self.check_count_range(capacity, arrivals, "zeta", (0, 0))
                self.check_end(capacity, arrivals, "zeta", 0, True)
                self.check_end(capacity, arrivals, "zeta", 1, False)
                self.check_end(capacity, arrivals, "zeta", SIXTY, False)

    def test_no_arrivals_and_few_names(self):
        for capacity in CAPACITIES:
            self.check_value(reduction_range(capacity, ()), (0, 0))
            self.check_value([order_with(capacity, (), 0), order_with(capacity, (), 1)], [(), None])
            self.check_value(order_for(capacity, (), "a", 0), ())
            arrivals = counts_of(capacity)
            self.check_value(reduction_range(capacity, arrivals), (0, 0))
            for name, count in arrivals:
                self.check_count_range(capacity, arrivals, name, (count, count))

    def test_counts_of_any_size(self):
        arrivals = scaled((("a", 7), ("b", 6), ("c", 5), ("d", 5)), 2 ** 5000)
        least, greatest = reduction_range(2, arrivals)
        self.assertEqual((least, greatest), self.range_by_words(2, arrivals))
        for number in (least, greatest):
            self.assertEqual(Summary(2).reductions(order_with(2, arrivals, number)), number)
        for count in count_range(2, arrivals, "a"):
            self.assertEqual(Summary(2).play(order_for(2, arrivals, "a", count)).tally("a"), count)


class ErrorsTest(RangesTest):
    # Good arguments, and wrong ones, behind those that all functions share.
    RESTS = [{"reductions": 0, "name": "a", "count": 0}, {"reductions": -1, "name": "A", "count": None}]
    CALLS = {
        reduction_range: ["capacity", "arrivals"], order_with: ["capacity", "arrivals", "reductions"],
        can_end: ["capacity", "arrivals", "name", "count"], order_for: ["capacity", "arrivals", "name", "count"],
        count_range: ["capacity", "arrivals", "name"],
    }

    def check_all_raise(self, error, fields, arguments):
        """Check all functions, each with those of the arguments that it takes."""
        for call, names in self.CALLS.items():
            self.check_raises(error, fields, call, *[arguments[name] for name in names])
            self.check_raises(error, fields, call, **{name: arguments[name] for name in reversed(names)})

    def test_parameters(self):
        for call, names in self.CALLS.items():
            self.assertEqual(list(inspect.signature(call).parameters), names)

    def test_wrong_capacity_comes_first(self):
        for capacity in WRONG_CAPACITIES:
            for arrivals in ((), (("a", 1),), None, (("a", 0),), counts_of(13)):
                for rest in self.RESTS:
                    arguments = {"capacity": capacity, "arrivals": arrivals} | rest
                    self.check_all_raise(InvalidCapacity, {"capacity": capacity}, arguments)

    def test_wrong_arrivals(self):
        rows = [(thing, None) for thing in NO_TUPLES] + spoiled_counts()[::3] + [(counts_of(13), 12)]
        for thing, index in rows:
            for rest in self.RESTS:
                self.check_all_raise(InvalidCounts, {"index": index}, {"capacity": 2, "arrivals": thing} | rest)

    def test_wrong_name_before_the_number(self):
        for name in WRONG_NAMES:
            for arrivals in ((), (("a", 3), ("b", 3))):
                self.check_raises(InvalidName, {"name": name}, count_range, 1, arrivals, name)
                self.check_raises(InvalidName, {"name": name}, count_range, name=name, arrivals=arrivals, capacity=1)
                for count in (0, 5, -1, None, True):
                    for call in (can_end, order_for):
                        self.check_raises(InvalidName, {"name": name}, call, 1, arrivals, name, count)

    def test_wrong_number(self):
        for number in WRONG_NUMBERS:
            for arrivals in ((), (("a", 3), ("b", 3))):
                self.check_raises(InvalidNumber, {"number": number}, order_with, 1, arrivals, number)
                self.check_raises(
                    InvalidNumber, {"number": number}, order_with, reductions=number, arrivals=arrivals, capacity=1
                )
                for call in (can_end, order_for):
                    for name in ("a", "zeta"):
                        self.check_raises(InvalidNumber, {"number": number}, call, 1, arrivals, name, number)

    def test_good_arguments_are_accepted_after_errors(self):
        arrivals = (("a", 3), ("b", 3))
        for wrong in ((0, arrivals), (1, None), (1, (("a", 0),))):
            with self.assertRaises((InvalidCapacity, InvalidCounts)):
                reduction_range(*wrong)
            self.check_value(reduction_range(1, arrivals), (3, 3))
            self.check_with(1, arrivals, 3, True)
            self.check_end(1, arrivals, "a", 0, True)
