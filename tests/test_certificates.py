"""Promises 85, 86, 89 and 90: certificates, and that whatever the checker accepts is true."""

import inspect
import itertools

from tallyplans.certificates import (
    certify_count, certify_end, certify_late, certify_merge, certify_reductions, certify_truth,
)
from tallyplans.checker import accepts
from tallyplans.counts import total
from tallyplans.errors import (
    CapacitiesDiffer, InvalidCapacity, InvalidCounts, InvalidIndex, InvalidName, InvalidNumber, InvalidOrder,
    InvalidSize, NotASummary,
)
from tallyplans.late import late_change
from tallyplans.merging import mergeable
from tallyplans.orders import arrivals_of
from tallyplans.outcomes import possible
from tallyplans.ranges import can_end, reduction_range
from tallyplans.summaries import Summary
from tallyplans.truth import fits
from tests.claims import random_ends, varied
from tests.helpers import TallyTest
from tests.reference import all_outcomes, arrived_once, played_singly, random_counts, random_order, seeded, small_counts
from tests.references import all_merged, fitting_counts
from tests.samples import (
    CAPACITIES, NO_SUMMARIES, NO_TUPLES, SIXTY, WRONG_CAPACITIES, WRONG_COUNTS, WRONG_NAMES, WRONG_NUMBERS, counts_of,
    names_of, spoiled_counts, spoiled_orders,
)


class CertificatesTest(TallyTest):
    """What the tests of certificates need."""

    def check_pair(self, pair, claim):
        """Check a claim and that the checker accepts it with its certificate; return the certificate."""
        self.assertIs(pair.__class__, tuple)
        self.assertEqual(len(pair), 2)
        self.check_value(pair[0], claim)
        self.assertIs(accepts(*pair), True)
        return pair[1]

    def check_end(self, start, arrivals, end, word):
        claim = (word, start.capacity, start.counts, arrivals, end.counts)
        self.check_pair(certify_end(start, arrivals, end), claim)
        self.check_value(certify_end(end=end, arrivals=arrivals, start=start), certify_end(start, arrivals, end))

    def check_merge(self, capacity, arrivals, end, word):
        claim = (word, capacity, arrivals, end.counts)
        self.check_pair(certify_merge(capacity, arrivals, end), claim)
        found = certify_merge(end=end, arrivals=arrivals, capacity=capacity)
        self.check_value(found, certify_merge(capacity, arrivals, end))

    def check_reductions(self, capacity, arrivals, least, greatest):
        claim = ("reductions", capacity, arrivals, least, greatest)
        self.check_pair(certify_reductions(capacity, arrivals), claim)
        found = certify_reductions(arrivals=arrivals, capacity=capacity)
        self.check_value(found, certify_reductions(capacity, arrivals))

    def check_count(self, capacity, arrivals, name, count, expected):
        found = certify_count(capacity, arrivals, name, count)
        self.check_value(certify_count(count=count, name=name, arrivals=arrivals, capacity=capacity), found)
        if expected:
            self.check_pair(found, ("ends", capacity, arrivals, name, count))
        else:
            self.assertIsNone(found)

    def check_truth(self, summary, size, counts, expected):
        found = certify_truth(summary, size, counts)
        self.check_value(certify_truth(counts=counts, size=size, summary=summary), found)
        if expected:
            self.check_pair(found, ("true counts", summary.capacity, summary.counts, size, counts))
        else:
            self.assertIsNone(found)

    def check_late(self, start, order, index, name, change):
        claim = ("late", start.capacity, start.counts, order, index, name, change)
        self.assertIsNone(self.check_pair(certify_late(start, order, index, name), claim))
        self.check_value(certify_late(name=name, index=index, order=order, start=start)[0], claim)


class ExamplesTest(CertificatesTest):
    def test_examples(self):
        claim, certificate = certify_end(Summary(2), (("a", 2), ("b", 1), ("c", 1)), Summary(2, (("b", 1),)))
        late = certify_late(Summary(2), (("a", 2), ("b", 1)), 0, "c")
        expected = (("late", 2, (), (("a", 2), ("b", 1)), 0, "c", ("less",)), None)
        self.check_value([claim[0], certificate, late], ["impossible", ("many", "a"), expected])
        arrivals = (("a", 4), ("b", 4), ("c", 2), ("d", 2))
        claim, certificate = certify_reductions(2, arrivals)
        found = [claim, accepts(claim, certificate), certify_count(1, (("x", 10),), "x", 9)]
        self.check_value(found, [("reductions", 2, arrivals, 2, 4), True, None])
        claim, certificate = certify_truth(Summary(2, (("a", 4), ("b", 1))), 11, (("a", 6), ("b", 3), ("c", 2)))
        other, plan = certify_merge(2, (("a", 5), ("b", 1)), Summary(2, (("b", 1),)))
        found = [claim[0], accepts(claim, certificate), other[0], plan]
        self.check_value(found, ["true counts", True, "not mergeable", ("range", 5, 1)])


class SmallTest(CertificatesTest):
    """All orders are gone through here."""

    CASES = [(1, "abc", 3), (2, "abc", 2), (2, "abcd", 1), (3, "abcd", 1)]

    def test_ends(self):
        for capacity, names, most in self.CASES:
            for start in small_counts(names, 1, capacity):
                for arrivals in small_counts(names, most):
                    found = all_outcomes(capacity, start, arrivals)
                    for end in small_counts(names, most, capacity):
                        word = "possible" if end in found else "impossible"
                        self.check_end(Summary(capacity, start), arrivals, Summary(capacity, end), word)

    def test_reductions_and_counts(self):
        for capacity, names, most in self.CASES:
            for arrivals in small_counts(names, most):
                found = all_outcomes(capacity, (), arrivals)
                falls = set().union(*found.values())
                self.check_reductions(capacity, arrivals, min(falls), max(falls))
                for name in ("a", "b", "zeta"):
                    counts = {dict(end).get(name, 0) for end in found}
                    for count in range(most + 2):
                        self.check_count(capacity, arrivals, name, count, count in counts)

    def test_true_counts(self):
        for capacity, names, most in self.CASES:
            for end in small_counts(names, 1, capacity):
                for falls in range(2):
                    summary = Summary(capacity, end)
                    size = summary.kept() + falls * (capacity + 1)
                    fitting = fitting_counts(capacity, end, falls, names)
                    for counts in small_counts(names, most):
                        expected = any(end == found for found in all_outcomes(capacity, (), counts))
                        expected = expected and total(counts) == size
                        self.assertEqual(counts in fitting, expected)
                        self.check_truth(summary, size, counts, expected)

    def test_merges(self):
        for capacity, names, most in self.CASES:
            for arrivals in small_counts(names, min(most, 2)):
                found = all_merged(capacity, arrivals, True)
                for end in small_counts(names, 2, capacity):
                    word = "mergeable" if end in found else "not mergeable"
                    self.check_merge(capacity, arrivals, Summary(capacity, end), word)

    def test_late(self):
        for capacity in (1, 2):
            for start in small_counts("ab", 1, capacity):
                for names in itertools.product("abc", repeat=3):
                    order = tuple((name, 1) for name in names)
                    before, _ = played_singly(capacity, start, order)
                    for index, name in itertools.product(range(4), "abd"):
                        after, _ = played_singly(capacity, start, order[:index] + ((name, 1),) + order[index:])
                        more = [("more", item) for item, count in after if count > dict(before).get(item, 0)]
                        self.check_late(Summary(capacity, start), order, index, name, (more + [("less",)])[0])


class LargeTest(CertificatesTest):
    def test_ends_and_merges(self):
        source = seeded(90)
        words = set()
        for capacity in CAPACITIES:
            for most in (2, 9, 10 ** 29, SIXTY):
                for names in (names_of(12), names_of(20)[8:], names_of(3)):
                    for _ in range(8):
                        start, arrivals, end = random_ends(source, capacity, most, names)
                        word = "possible" if possible(start, arrivals, end) else "impossible"
                        self.check_end(start, arrivals, end, word)
                        other = "mergeable" if mergeable(capacity, arrivals, end) else "not mergeable"
                        self.check_merge(capacity, arrivals, end, other)
                        words |= {(capacity, word), (capacity, other)}
        self.assertEqual(len(words), 8 * 4)

    def test_starts_of_other_names(self):
        source = seeded(91)
        for capacity in CAPACITIES:
            for most in (3, 10 ** 30):
                start = Summary(capacity, random_counts(source, names_of(20)[12:12 + capacity], most))
                order = random_order(source, names_of(12), 40, most)
                self.check_end(start, arrivals_of(order), start.play(order), "possible")
                end = start.play(order).arrive("a")
                self.check_end(start, arrivals_of(order), end, "impossible")

    def test_ranges_truths_and_late_arrivals(self):
        source = seeded(92)
        for capacity in CAPACITIES:
            for most in (2, 9, 10 ** 29, SIXTY):
                for runs in (0, 1, 12, 40):
                    order = random_order(source, names_of(12), runs, most)
                    arrivals, end = arrivals_of(order), Summary(capacity).play(order)
                    self.check_reductions(capacity, arrivals, *reduction_range(capacity, arrivals))
                    for name in ["a", "zeta"] + [name for name, _ in end.counts]:
                        self.check_count(capacity, arrivals, name, end.tally(name), True)
                        for count in (0, 1, dict(arrivals).get(name, 0), dict(arrivals).get(name, 0) + 1):
                            expected = can_end(capacity, arrivals, name, count)
                            self.check_count(capacity, arrivals, name, count, expected)
                    self.check_truth(end, total(arrivals), arrivals, True)
                    size = total(arrivals) + capacity + 1
                    self.check_truth(end, size, arrivals, fits(end, size, arrivals))
                    for index in (0, runs // 2, len(order)):
                        change = late_change(end, order, index, "zeta")
                        self.check_late(end, order, index, "zeta", change)

    def test_arguments_at_the_limits(self):
        order = (("a", 1), ("b", SIXTY)) * 500
        for capacity in (1, 8):
            start = Summary(capacity, counts_of(capacity))
            self.check_late(start, order, 1000, "zeta", late_change(start, order, 1000, "zeta"))
            word = "possible" if possible(start, counts_of(12), start) else "impossible"
            self.check_end(start, counts_of(12), start, word)
            self.check_reductions(capacity, counts_of(12), *reduction_range(capacity, counts_of(12)))


class SoundTest(CertificatesTest):
    """Small cases of each form: what the checker accepts is true, whatever the certificate is."""

    def orders(self, names):
        """Return orders of all short lengths, some with longer runs."""
        rows = []
        for length in range(5):
            rows += [tuple((name, 1) for name in row) for row in itertools.product(names, repeat=length)]
        for one, other in itertools.product(names, repeat=2):
            rows += [((one, 2), (other, 1)), ((one, 2), (other, 2)), ((one, 1), (other, 2), (one, 1))]
        return rows

    def reasons(self):
        """Return all reasons with small numbers, and some that are no reasons."""
        rows = [(word, name) for word in ("gain", "few", "many", "none") for name in "abcdez"]
        rows += [("sum", number) for number in range(-9, 14)]
        rows += [(word, one, other) for word in ("columns", "range") for one in range(-1, 6) for other in range(-1, 15)]
        return rows + [None, (), ("less",), ("columns", 1), ("sum",)]

    def check_claims(self, claims, certificates, true):
        """Check that no claim is accepted but the true ones, and each of these with some certificate."""
        for claim in claims:
            accepted = [certificate for certificate in certificates if accepts(claim, certificate)]
            self.assertEqual(bool(accepted), claim in true, (claim, accepted[:1]))

    def test_ends(self):
        orders, reasons = self.orders("abc"), self.reasons()
        for capacity in (1, 2):
            for start in ((), (("a", 1),), (("a", 2),), (("a", 1), ("d", 1))[:capacity]):
                for arrivals in small_counts("abc", 2)[::2]:
                    if total(arrivals) > 4:
                        continue
                    ends = small_counts("abd", 2, capacity)
                    found = all_outcomes(capacity, start, arrivals)
                    self.check_claims(
                        [("possible", capacity, start, arrivals, end) for end in ends], orders,
                        [("possible", capacity, start, arrivals, end) for end in found],
                    )
                    self.check_claims(
                        [("impossible", capacity, start, arrivals, end) for end in ends], reasons,
                        [("impossible", capacity, start, arrivals, end) for end in ends if end not in found],
                    )

    def test_ends_with_crowded_columns(self):
        reasons = self.reasons()
        for counts in itertools.product(range(3), repeat=2):
            start = tuple((name, count) for name, count in zip("ab", counts) if count)
            for arrivals in small_counts("cde", 2):
                found = all_outcomes(2, start, arrivals)
                ends = [(), (("c", 1),), (("a", 1),)]
                self.check_claims(
                    [("impossible", 2, start, arrivals, end) for end in ends], reasons,
                    [("impossible", 2, start, arrivals, end) for end in ends if end not in found],
                )

    def test_reductions_and_counts(self):
        for capacity in (1, 2):
            for arrivals in small_counts("abc", 2):
                if total(arrivals) > 4:
                    continue
                orders = [order for order in self.orders("abc") if arrivals_of(order) == arrivals]
                found = all_outcomes(capacity, (), arrivals)
                falls = set().union(*found.values())
                claims = [("reductions", capacity, arrivals, least, most) for least in range(4) for most in range(4)]
                true = [("reductions", capacity, arrivals, min(falls), max(falls))]
                self.check_claims(claims, list(itertools.product(orders[::2] + orders[-1:], repeat=2)), true)
                claims = [("ends", capacity, arrivals, name, count) for name in "abz" for count in range(4)]
                true = [claim for claim in claims if any(dict(end).get(claim[3], 0) == claim[4] for end in found)]
                self.check_claims(claims, self.orders("abc"), true)

    def test_true_counts(self):
        orders = self.orders("abc")
        for capacity in (1, 2):
            for counts in small_counts("abc", 2):
                if total(counts) <= 4:
                    found = all_outcomes(capacity, (), counts)
                    ends = small_counts("abc", 2, capacity)
                    claims = [("true counts", capacity, end, size, counts) for end in ends for size in range(7)]
                    true = [claim for claim in claims if claim[2] in found and claim[3] == total(counts)]
                    self.check_claims(claims, orders, true)

    def test_merges(self):
        orders = [order for order in self.orders("abc") if len(order) <= 2]
        plans = [plan for length in range(3) for plan in itertools.product(orders, repeat=length)]
        rows = {}
        for plan in plans:
            sums = {}
            for name, times in itertools.chain(*plan):
                sums[name] = sums.get(name, 0) + times
            rows.setdefault(tuple(sorted(sums.items())), []).append(plan)
        for capacity in (1, 2):
            for arrivals in small_counts("abc", 2):
                if total(arrivals) > 4:
                    continue
                ends, found = small_counts("abcd", 2, capacity), all_merged(capacity, arrivals, True)
                true = [("mergeable", capacity, arrivals, end) for end in found]
                certificates = rows.get(arrivals, []) + plans[::17]
                claims = [("mergeable", capacity, arrivals, end) for end in ends]
                accepted = [claim for claim in claims if any(accepts(claim, plan) for plan in certificates)]
                self.assertTrue(set(accepted) <= set(true))
                true = [("not mergeable", capacity, arrivals, end) for end in ends if end not in found]
                claims = [("not mergeable", capacity, arrivals, end) for end in ends]
                self.check_claims(claims, self.reasons(), true)

    def test_late(self):
        for capacity in (1, 2):
            for start in small_counts("ab", 1, capacity):
                for order in self.orders("ab")[:12]:
                    for index, name in itertools.product(range(-1, 5), "ad"):
                        changes = [("less",), ("more",)] + [("more", item) for item in "abcd"] + [None, ()]
                        claims = [("late", capacity, start, order, index, name, change) for change in changes]
                        true = [claim for claim in claims if self.is_change(*claim[1:])]
                        self.check_claims(claims, [None, (), ("less",), order], true)

    def is_change(self, capacity, start, order, index, name, change):
        """Return whether the change is the one of single arrivals."""
        if not 0 <= index <= len(order):
            return False
        before, _ = played_singly(capacity, start, order)
        after, _ = played_singly(capacity, start, order[:index] + ((name, 1),) + order[index:])
        if change == ("less",):
            return len(before) == capacity and after == arrived_once(capacity, before, "zzzzzzzz")[0]
        return any(change == ("more", item) and count == dict(before).get(item, 0) + 1 for item, count in after) and (
            len(set(after) ^ set(before)) <= 2
        )

    def test_certificates_put_otherwise(self):
        # A claim that is false is not accepted with anything like a certificate of a true one.
        source = seeded(93)
        for capacity in (1, 2, 3):
            for _ in range(12):
                order = random_order(source, "abcd", source.randint(0, 5), 2)
                arrivals = arrivals_of(order)
                found = all_outcomes(capacity, (), arrivals)
                for end in small_counts("abcd", 2, capacity)[::5]:
                    word = "impossible" if end in found else "possible"
                    reason = certify_end(Summary(capacity), arrivals, Summary(capacity, end))[1]
                    for certificate in varied(order) + varied(reason) + self.reasons():
                        self.assertIs(accepts((word, capacity, (), arrivals, end), certificate), False)


class ErrorsTest(CertificatesTest):
    def test_parameters(self):
        rows = {
            certify_end: ["start", "arrivals", "end"], certify_reductions: ["capacity", "arrivals"],
            certify_count: ["capacity", "arrivals", "name", "count"], certify_truth: ["summary", "size", "counts"],
            certify_merge: ["capacity", "arrivals", "end"], certify_late: ["start", "order", "index", "name"],
        }
        for call, parameters in rows.items():
            self.assertEqual(list(inspect.signature(call).parameters), parameters)

    def test_no_summary(self):
        for thing in NO_SUMMARIES:
            fields = {"value": thing}
            self.check_raises(NotASummary, fields, certify_end, thing, None, None)
            self.check_raises(NotASummary, fields, certify_end, Summary(2), (("a", 1),), thing)
            self.check_raises(NotASummary, fields, certify_merge, 2, (("a", 1),), thing)
            self.check_raises(NotASummary, fields, certify_truth, thing, None, None)
            self.check_raises(NotASummary, fields, certify_late, thing, None, None, None)

    def test_no_capacity(self):
        for capacity in WRONG_CAPACITIES:
            fields = {"capacity": capacity}
            self.check_raises(InvalidCapacity, fields, certify_reductions, capacity, None)
            self.check_raises(InvalidCapacity, fields, certify_count, capacity, None, None, None)
            self.check_raises(InvalidCapacity, fields, certify_merge, capacity, None, None)
        for one, other in itertools.permutations((1, 2, 8), 2):
            fields = {"capacity": other}
            self.check_raises(CapacitiesDiffer, fields, certify_end, Summary(one), (), Summary(other))
            self.check_raises(CapacitiesDiffer, fields, certify_merge, one, (), Summary(other))

    def test_no_counts(self):
        wrong = [(thing, None) for thing in NO_TUPLES] + spoiled_counts()[::9] + [(counts_of(13), 12)]
        for thing, index in wrong:
            fields = {"index": index}
            self.check_raises(InvalidCounts, fields, certify_end, Summary(2), thing, None)
            self.check_raises(InvalidCounts, fields, certify_end, Summary(2), thing, Summary(3))
            self.check_raises(InvalidCounts, fields, certify_reductions, 2, thing)
            self.check_raises(InvalidCounts, fields, certify_count, 2, thing, "", None)
            self.check_raises(InvalidCounts, fields, certify_truth, Summary(2), 3, thing)
            self.check_raises(InvalidCounts, fields, certify_merge, 2, thing, None)

    def test_no_size(self):
        for size in WRONG_COUNTS + [1, 2, 4, -3]:
            for counts in ((), None):
                fields = {"size": size}
                self.check_raises(InvalidSize, fields, certify_truth, Summary(2, (("a", 3),)), size, counts)

    def test_no_name_or_number(self):
        for name in WRONG_NAMES:
            for count in (0, -1):
                self.check_raises(InvalidName, {"name": name}, certify_count, 2, (("a", 1),), name, count)
            self.check_raises(InvalidName, {"name": name}, certify_late, Summary(2), (), 0, name)
        for count in WRONG_NUMBERS:
            self.check_raises(InvalidNumber, {"number": count}, certify_count, 2, (("a", 1),), "a", count)

    def test_no_order_or_index(self):
        for thing, index in [(thing, None) for thing in NO_TUPLES] + spoiled_orders()[::5]:
            self.check_raises(InvalidOrder, {"index": index}, certify_late, Summary(2), thing, -1, "")
        for index in [thing for thing in WRONG_COUNTS if repr(thing) != "0"] + [2, SIXTY]:
            for name in ("a", ""):
                self.check_raises(InvalidIndex, {"index": index}, certify_late, Summary(2), (("a", 1),), index, name)
