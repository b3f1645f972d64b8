"""Promises 34 to 44: what holds over the whole program."""

import itertools

from tallyplans.counts import added
from tallyplans.orders import arrivals_of, shortened
from tallyplans.outcomes import find_order, losses, obstacle, possible
from tallyplans.ranges import can_end, count_range, order_with, reduction_range
from tallyplans.summaries import Summary
from tests.helpers import TallyTest
from tests.reference import all_outcomes, random_counts, random_order, scaled, seeded, small_counts
from tests.samples import CAPACITIES, SIXTY, counts_of, names_of


def random_plays(seed, many):
    """Return starts and orders of all capacities: empty, partly full and full starts, small and large counts."""
    source = seeded(seed)
    rows = []
    for capacity, most in itertools.product(CAPACITIES, (1, 3, 10 ** 6, SIXTY // 30)):
        for _ in range(many):
            pairs = source.choice([0, capacity, source.randint(0, capacity)])
            start = Summary(capacity, random_counts(source, source.sample(names_of(14), pairs), most * 3))
            names = source.sample(names_of(14), source.randint(1, 12))
            rows.append((start, random_order(source, names, source.choice([0, 1, 5, 25]), most)))
    return rows


def joining_arrivals(start, end):
    """Return arrivals that lead from the start to the end.

    There are as many columns as the greatest start count. Names of the end, and
    fresh ones, fill the places that the start counters leave.
    """
    held, kept = dict(start.counts), dict(end.counts)
    fresh = [name for name in names_of(26) if name not in held and name not in kept]
    fill = list(kept) + fresh[:start.capacity + 1 - len(kept)]
    arrived = {name: 0 for name in fill}
    bounds = sorted({0} | set(held.values()))
    for low, high in zip(bounds, bounds[1:]):
        active = [name for name in held if held[name] > low]
        free = [name for name in fill if name not in active]
        for name in free[:start.capacity + 1 - len(active)]:
            arrived[name] += high - low
    for name, count in kept.items():
        # What a start counter holds beyond its columns is nothing: they last until the greatest one is empty.
        arrived[name] += count
    return tuple((name, count) for name, count in sorted(arrived.items()) if count)


class WholeTest(TallyTest):
    def check_possible(self, start, arrivals, end):
        """Check that the end is possible; return the order that is found."""
        self.assertIsNone(obstacle(start, arrivals, end))
        self.assertIs(possible(start, arrivals, end), True)
        order = find_order(start, arrivals, end)
        self.assertEqual((arrivals_of(order), start.play(order)), (arrivals, end))
        return order

    def test_what_an_order_leads_to(self):
        for start, order in random_plays(34, 6):
            end, arrivals, falls = start.play(order), arrivals_of(order), start.reductions(order)
            found = self.check_possible(start, arrivals, end)
            self.assertEqual(start.reductions(found), falls)
            if len(start) == 0:
                self.assertIsNotNone(order_with(start.capacity, arrivals, falls))
                for name, _ in arrivals:
                    self.assertIs(can_end(start.capacity, arrivals, name, end.tally(name)), True)
                    least, greatest = count_range(start.capacity, arrivals, name)
                    self.assertTrue(least <= end.tally(name) <= greatest)

    def test_losses_and_reductions(self):
        for start, order in random_plays(35, 6):
            falls = start.reductions(order)
            lost = dict(losses(start, arrivals_of(order), start.play(order)))
            self.assertEqual(sum(lost.values()), falls * (start.capacity + 1))
            for loss in lost.values():
                self.assertTrue(0 < loss <= falls)

    def test_possible_summaries_are_those_to_which_orders_lead(self):
        for capacity, names, most in ((1, "abc", 2), (2, "abcd", 1), (2, "abc", 2), (8, "ab", 2)):
            for arrivals in small_counts(names, most):
                for start in small_counts(names, 1, capacity):
                    reached = all_outcomes(capacity, start, arrivals)
                    first = Summary(capacity, start)
                    for end in small_counts(names, most + 1, capacity):
                        self.assertIs(possible(first, arrivals, Summary(capacity, end)), end in reached)

    def test_every_number_of_reductions_between_the_ends(self):
        for capacity in CAPACITIES:
            for arrivals in (tuple((name, 5) for name in names_of(12)), (("a", 30), ("b", 17), ("c", 9), ("d", 2))):
                least, greatest = reduction_range(capacity, arrivals)
                for number in range(greatest + 3):
                    order = order_with(capacity, arrivals, number)
                    if least <= number <= greatest:
                        self.assertEqual(arrivals_of(order), arrivals)
                        self.assertEqual(Summary(capacity).reductions(order), number)
                    else:
                        self.assertIsNone(order)

    def test_multiplied(self):
        source = seeded(37)
        for start, order in random_plays(36, 3):
            arrivals, end = arrivals_of(order), start.play(order)
            for factor in (2, 7, source.randint(2, 10 ** 25)):
                rows = [Summary(start.capacity, scaled(row.counts, factor)) for row in (start, end)]
                self.assertEqual(rows[0].play(scaled(order, factor)), rows[1])
                self.assertEqual(rows[0].reductions(scaled(order, factor)), factor * start.reductions(order))
                self.check_possible(rows[0], scaled(arrivals, factor), rows[1])

    def test_runs_cut_or_joined(self):
        source = seeded(38)
        for start, order in random_plays(39, 3):
            pieces = []
            for name, times in order:
                cut = source.randint(0, times)
                pieces += [(name, part) for part in (cut, times - cut) if part]
            for other in (tuple(pieces), shortened(order), shortened(tuple(pieces))):
                self.assertEqual(arrivals_of(other), arrivals_of(order))
                self.assertEqual(start.play(other), start.play(order))
                self.assertEqual(start.reductions(other), start.reductions(order))

    def test_one_order_after_another(self):
        source = seeded(40)
        for start, order in random_plays(41, 4):
            names = [name for name, _ in arrivals_of(order)] or ["a"]
            later = random_order(source, names, 10, max([times for _, times in order], default=1))
            middle = start.play(order)
            end = middle.play(later)
            together = added(arrivals_of(order), arrivals_of(later))
            found = self.check_possible(start, together, end)
            self.assertEqual(start.reductions(found), start.reductions(order) + middle.reductions(later))
            parts = find_order(start, arrivals_of(order), middle) + find_order(middle, arrivals_of(later), end)
            self.assertEqual(start.play(parts), end)

    def test_a_name_that_keeps_its_counter_arrives_more_often(self):
        for start, order in random_plays(42, 4):
            arrivals, end = arrivals_of(order), start.play(order)
            for name, _ in end.counts:
                for times in (1, 10 ** 20, SIXTY):
                    if len(dict(arrivals + ((name, 1),))) <= 12:
                        more = added(arrivals, ((name, times),))
                        self.check_possible(start, more, Summary(end.capacity, added(end.counts, ((name, times),))))

    def test_from_any_summary_to_any_other_one(self):
        source = seeded(43)
        for capacity in CAPACITIES:
            rows = [(), counts_of(capacity), counts_of(1), tuple((name, 1) for name in "abcdefgh"[:capacity])]
            for most in (1, 4, SIXTY):
                for pairs in (1, capacity // 2, capacity):
                    rows.append(random_counts(source, source.sample(names_of(10), pairs), most))
            for one, other in itertools.product(rows, repeat=2):
                start, end = Summary(capacity, one), Summary(capacity, other)
                self.check_possible(start, joining_arrivals(start, end), end)

    def test_attainable_small_ends_only(self):
        # From the empty summary no end holds more of a name than what arrived.
        for arrivals in small_counts("abc", 2):
            for name in "abc":
                self.assertIs(can_end(2, arrivals, name, dict(arrivals).get(name, 0) + 1), False)
                self.assertIs(possible(Summary(2), arrivals, Summary(2, ((name, 7),))), False)
