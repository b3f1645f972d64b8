"""The six guarantees of point 4, each over the whole program."""

from tallyplans.certificates import (
    certify_count, certify_end, certify_late, certify_merge, certify_reductions, certify_truth,
)
from tallyplans.checker import accepts
from tallyplans.counts import total
from tallyplans.errors import InvalidSize
from tallyplans.late import late_change
from tallyplans.merging import find_plan, merge_obstacle, mergeable, plan_arrivals, plan_result
from tallyplans.orders import arrivals_of
from tallyplans.outcomes import find_order, obstacle, possible
from tallyplans.ranges import order_with, reduction_range
from tallyplans.summaries import Summary
from tallyplans.truth import fits
from tests.claims import random_claims, random_ends, varied
from tests.helpers import TallyTest
from tests.reference import all_outcomes, is_possible, played_singly, random_order, seeded, small_counts
from tests.references import all_merged, plan_reached
from tests.samples import CAPACITIES, SIXTY, names_of

SMALL = [(1, "abc", 3), (2, "abc", 2), (2, "abcd", 1), (3, "abcd", 1)]
SIZES = [1, 3, 10 ** 29, SIXTY // 50]


class GuaranteesTest(TallyTest):
    def test_an_order_or_an_obstacle(self):
        for capacity, names, most in SMALL:
            for start in small_counts(names, 2, capacity)[::2]:
                for arrivals in small_counts(names, most):
                    found = all_outcomes(capacity, start, arrivals)
                    for end in small_counts(names, most + 1, capacity)[::3] + sorted(found):
                        rows = (Summary(capacity, start), arrivals, Summary(capacity, end))
                        self.assertIs(self.has_order(*rows), end in found)
        source = seeded(1)
        seen = set()
        for capacity in CAPACITIES:
            for most in SIZES:
                for _ in range(10):
                    rows = random_ends(source, capacity, most)
                    seen.add((capacity, self.has_order(*rows)))
                    if most < 9:
                        expected = is_possible(capacity, rows[0].counts, rows[1], rows[2].counts)
                        self.assertIs(possible(*rows), expected)
        self.assertEqual(len(seen), 16)

    def has_order(self, start, arrivals, end):
        """Return whether an order is found; check that it leads to the end, and otherwise that an obstacle is."""
        order, reason = find_order(start, arrivals, end), obstacle(start, arrivals, end)
        self.assertIs(order is None, reason is not None)
        self.assertIs(possible(start, arrivals, end), reason is None)
        if order is not None:
            self.assertEqual((arrivals_of(order), start.play(order)), (arrivals, end))
        return order is not None

    def test_all_numbers_of_reductions(self):
        for capacity, names, most in SMALL + [(2, "abcde", 2), (3, "abcdef", 2)]:
            for arrivals in small_counts(names, most)[::1 + len(names) // 5 * 6]:
                falls = set().union(*all_outcomes(capacity, (), arrivals).values())
                least, greatest = reduction_range(capacity, arrivals)
                self.assertEqual(falls, set(range(least, greatest + 1)))
        source = seeded(2)
        for capacity in CAPACITIES:
            for most in SIZES:
                order = random_order(source, names_of(12), 30, most)
                arrivals = arrivals_of(order)
                least, greatest = reduction_range(capacity, arrivals)
                self.assertTrue(least <= Summary(capacity).reductions(order) <= greatest)
                for number in (least, greatest, (least + greatest) // 2, source.randint(least, greatest)):
                    found = order_with(capacity, arrivals, number)
                    self.assertEqual(arrivals_of(found), arrivals)
                    self.assertEqual(Summary(capacity).reductions(found), number)
                for number in (least - 1, greatest + 1):
                    if number >= 0:
                        self.assertIsNone(order_with(capacity, arrivals, number))

    def test_true_counts_are_those_of_orders(self):
        for capacity, names, most in SMALL:
            rows = {counts: set(all_outcomes(capacity, (), counts)) for counts in small_counts(names, most)}
            for end in small_counts(names, most, capacity):
                for counts in rows:
                    try:
                        found = fits(Summary(capacity, end), total(counts), counts)
                    except InvalidSize:
                        found = False
                    self.assertIs(found, end in rows[counts])
        source = seeded(3)
        for capacity in CAPACITIES:
            for most in SIZES:
                order = random_order(source, names_of(12), 30, most)
                end, counts = Summary(capacity).play(order), arrivals_of(order)
                self.assertIs(fits(end, total(counts), counts), True)
                claim, certificate = certify_truth(end, total(counts), counts)
                self.assertEqual(Summary(capacity).play(certificate).counts, claim[2])

    def test_mergeable_summaries_are_those_of_plans(self):
        for capacity, names, most in SMALL:
            for arrivals in small_counts(names, min(most, 2)):
                found = all_merged(capacity, arrivals, True)
                for end in small_counts(names, 2, capacity):
                    self.assertIs(self.has_plan(capacity, arrivals, Summary(capacity, end)), end in found)
        source = seeded(4)
        for capacity in CAPACITIES:
            for most in SIZES:
                for _ in range(6):
                    _, arrivals, end = random_ends(source, capacity, most)
                    found = self.has_plan(capacity, arrivals, end)
                    if most < 9:
                        self.assertIs(found, plan_reached(capacity, arrivals, end.counts))
                plan = tuple(random_order(source, names_of(12), 9, most) for _ in range(9))
                self.assertIs(self.has_plan(capacity, plan_arrivals(plan), plan_result(capacity, plan)), True)

    def has_plan(self, capacity, arrivals, end):
        """Return whether a merge plan is found; check that it leads to the end, and otherwise that an obstacle is."""
        plan, reason = find_plan(capacity, arrivals, end), merge_obstacle(capacity, arrivals, end)
        self.assertIs(plan is None, reason is not None)
        self.assertIs(mergeable(capacity, arrivals, end), plan is not None)
        if plan is not None:
            self.assertEqual((plan_arrivals(plan), plan_result(capacity, plan)), (arrivals, end))
        return plan is not None

    def test_late_arrivals_change_one_or_all_counters(self):
        source = seeded(5)
        seen = set()
        for capacity in CAPACITIES:
            for most in (1, 3):
                for _ in range(12):
                    start = Summary(capacity).play(random_order(source, names_of(12), 8, most))
                    order = random_order(source, names_of(14), 3, most) + random_order(source, names_of(9), 7, most)
                    before, _ = played_singly(capacity, start.counts, order)
                    index, name = source.randint(0, len(order)), source.choice(names_of(14))
                    after, _ = played_singly(capacity, start.counts, order[:index] + ((name, 1),) + order[index:])
                    all_less = tuple((item, count - 1) for item, count in before if count > 1)
                    expected = ("less",)
                    if len(before) < capacity or after != all_less:
                        more = set(after) - set(before)
                        (item, count), = more
                        self.assertEqual({**dict(before), item: dict(before).get(item, 0) + 1}, dict(after))
                        expected = ("more", item)
                    self.check_value(late_change(start, order, index, name), expected)
                    seen.add(expected[0])
        self.assertEqual(seen, {"more", "less"})

    def test_checker_accepts_what_is_true(self):
        source = seeded(6)
        forms = set()
        for capacity in CAPACITIES:
            for most in SIZES:
                for claim, certificate in random_claims(source, capacity, most):
                    self.assertIs(accepts(claim, certificate), True)
                    forms.add(claim[0])
        self.assertEqual(len(forms), 8)
        for capacity, names, most in SMALL[:2]:
            for arrivals in small_counts(names, most)[::3]:
                found = all_outcomes(capacity, (), arrivals)
                merged = all_merged(capacity, arrivals, True)
                for end in small_counts(names, most, capacity):
                    rows = (Summary(capacity), arrivals, Summary(capacity, end))
                    claim, certificate = certify_end(*rows)
                    self.assertIs(accepts(claim, certificate), True)
                    self.assertEqual(claim[0] == "possible", end in found)
                    wrong = {"possible": "impossible", "impossible": "possible"}[claim[0]]
                    self.check_never((wrong, *claim[1:]), certificate)
                    claim, certificate = certify_merge(capacity, arrivals, rows[2])
                    self.assertEqual(claim[0] == "mergeable", end in merged)
                    wrong = {"mergeable": "not mergeable", "not mergeable": "mergeable"}[claim[0]]
                    self.check_never((wrong, *claim[1:]), certificate)
        for claim, certificate in [
            certify_reductions(2, (("a", 4), ("b", 4), ("c", 2), ("d", 2))), certify_count(1, (("x", 10),), "x", 10),
            certify_late(Summary(2), (("a", 2), ("b", 1)), 0, "c"),
        ]:
            self.assertIs(accepts(claim, certificate), True)

    def check_never(self, claim, certificate):
        """Check that a claim that is false is not accepted, with this certificate put otherwise or others."""
        rows = varied(certificate) + [("sum", number) for number in range(9)]
        rows += [(word, name) for word in ("gain", "few", "many") for name in "abc"]
        for row in rows:
            self.assertIs(accepts(claim, row), False)
