"""Promises 81 to 84: the checker."""

import inspect

from tallyplans.checker import accepts
from tallyplans.collecting import Collector
from tallyplans.counts import total
from tallyplans.ranges import order_with, reduction_range
from tallyplans.summaries import Summary
from tests.claims import is_said, places_in, put, random_claims, varied, varied_twice
from tests.helpers import TallyTest
from tests.reference import random_order, scaled, seeded
from tests.samples import (
    CAPACITIES, NO_SUMMARIES, SIXTY, WRONG_CAPACITIES, WRONG_NAMES, counts_of, names_as_order, names_of, nested,
)

# True claims with certificates that the checker accepts: each form, each reason.
ACCEPTED = [
    (("possible", 2, (), (("a", 2), ("b", 1), ("c", 1)), (("a", 1),)), (("a", 2), ("b", 1), ("c", 1))),
    (("possible", 1, (("a", 3),), (("b", 1), ("c", 1)), (("a", 1),)), (("b", 1), ("c", 1))),
    (("possible", 8, (), (), ()), ()),
    (("possible", 1, (("a", SIXTY),), (("b", SIXTY),), ()), (("b", SIXTY),)),
    (("impossible", 2, (("a", 1), ("b", 1)), (("c", 2), ("e", 2)), ()), ("columns", 1, 4)),
    (("impossible", 2, (("a", 2), ("b", 2)), (("c", 4), ("e", 4)), ()), ("columns", 1, 4)),
    (("impossible", 2, (("a", 2), ("b", 2)), (("c", 4), ("e", 4)), ()), ("columns", 2, 8)),
    (("impossible", 2, (("a", 2), ("b", 2)), (("c", 4), ("e", 4)), ()), ("columns", 3, 10)),
    (("impossible", 2, (), (("a", 2), ("b", 1), ("c", 1)), (("b", 1),)), ("many", "a")),
    (("impossible", 1, (("a", 5),), (("b", 2),), (("a", 4),)), ("sum", 3)),
    (("impossible", 1, (("a", 5),), (("b", 2),), (("a", 5),)), ("few", "a")),
    (("impossible", 1, (("a", 5),), (("b", 2),), (("a", 5),)), ("many", "b")),
    (("impossible", 2, (), (("c", 1),), (("a", 1), ("d", 1))), ("gain", "a")),
    (("impossible", 2, (), (("c", 1),), (("a", 1), ("d", 1))), ("gain", "d")),
    (("impossible", 2, (), (("c", 1),), (("a", 1), ("d", 1))), ("sum", -1)),
    (("impossible", 1, (), (("c", 1),), (("a", SIXTY),)), ("gain", "a")),
    (("impossible", 1, (), (("a", 1), ("b", 3)), (("c", 2),)), ("many", "b")),
    (("impossible", 1, (("a", 4),), (("b", 4),), (("c", 4),)), ("gain", "c")),
    (("impossible", 1, (("a", 4),), (("b", 1), ("c", 1)), (("a", 4),)), ("few", "a")),
    (("impossible", 2, (("c", 1),), (("a", 3), ("b", 3)), (("c", 1), ("d", 3))), ("few", "c")),
    (("impossible", 2, (("c", 1),), (("a", 3), ("b", 3)), (("c", 1), ("d", 3))), ("few", "d")),
    (("impossible", 2, (("c", 1),), (("a", 3), ("b", 3)), (("c", 1), ("d", 3))), ("many", "b")),
    (("reductions", 2, (("a", 2), ("b", 1), ("c", 1)), 1, 1), ((("a", 2), ("b", 1), ("c", 1)),) * 2),
    (("reductions", 1, (), 0, 0), ((), ())),
    (("ends", 1, (("x", 2), ("y", 1)), "x", 1), (("x", 1), ("y", 1), ("x", 1))),
    (("ends", 1, (("x", 2), ("y", 1)), "zeta", 0), (("x", 2), ("y", 1))),
    (("true counts", 2, (("a", 4), ("b", 1)), 5, (("a", 4), ("b", 1))), (("b", 1), ("a", 4))),
    (("true counts", 8, (), 0, ()), ()),
    (("mergeable", 2, (("a", 2), ("b", 2), ("c", 2), ("d", 2)), ()), ((("a", 2), ("b", 2)), (("c", 2), ("d", 2)))),
    (("mergeable", 1, (), ()), ((),) * 400),
    (("not mergeable", 2, (("a", 5), ("b", 1)), (("b", 1),)), ("range", 5, 1)),
    (("not mergeable", 2, (("a", 1),), (("b", 1), ("c", 1))), ("gain", "b")),
    (("not mergeable", 2, (("a", 1),), (("b", 1), ("c", 1))), ("gain", "c")),
    (("late", 2, (), (("a", 2), ("b", 1)), 0, "c", ("less",)), None),
    (("late", 2, (), (("a", 2), ("b", 1)), 2, "b", ("more", "b")), None),
    (("late", 1, (("a", SIXTY),), (), 0, "b", ("less",)), None),
    (("late", 8, (), (), 0, "abcdefgh", ("more", "abcdefgh")), None),
]

REFUSED = [
    (("possible", 2, (), (("a", 2), ("b", 1), ("c", 1)), (("a", 1),)), (("a", 2), ("c", 1))),
    (("impossible", 2, (("a", 1), ("b", 1)), (("c", 2), ("e", 2)), ()), ("columns", 2, 6)),
    (("impossible", 2, (("a", 1), ("b", 1)), (("c", 2), ("e", 2)), ()), ("columns", 0, 0)),
    (("impossible", 2, (("a", 1), ("b", 1)), (("c", 2), ("e", 2)), ()), ("many", "a")),
    (("impossible", 2, (("a", 1), ("b", 1)), (("c", 2), ("e", 2)), ()), ("sum", 6)),
    (("impossible", 2, (("a", 1), ("b", 1)), (("c", 2), ("e", 2)), ()), ("few", "zeta")),
    (("impossible", 2, (("a", 1), ("b", 1)), (("c", 2), ("e", 2)), ()), ("gain", "zeta")),
    # With a sum that is no multiple there is no number of columns.
    (("impossible", 1, (("a", 5),), (("b", 2),), (("a", 4),)), ("few", "a")),
    (("impossible", 1, (), (("a", 3),), ()), ("many", "a")),
    (("impossible", 1, (("a", 1), ), (("c", 2), ("e", 2)), ()), ("columns", 1, 3)),
    # With a sum below 0 there is none either.
    (("impossible", 1, (), (("a", 1),), (("b", 3),)), ("many", "a")),
    (("impossible", 1, (), (("a", 1),), (("b", 3),)), ("few", "b")),
    (("impossible", 1, (), (("a", 1),), (("b", 3),)), ("sum", -2)),
    (("reductions", 2, (("a", 2), ("b", 1), ("c", 1)), 1, 1), ((("a", 2), ("b", 1), ("c", 1)),)),
    (("reductions", 2, (("a", 2), ("b", 1), ("c", 1)), 0, 1), ((("a", 2), ("b", 1), ("c", 1)),) * 2),
    # The second order has a number of reductions that is not the greatest one.
    (("reductions", 1, (("a", 2), ("b", 1), ("c", 1)), 2, 1), ((("a", 2), ("b", 1), ("c", 1)),) * 2),
    (("reductions", 2, (("a", 2), ("b", 2), ("c", 2), ("d", 2)), 2, 2),
     ((("a", 2), ("b", 2), ("c", 2), ("d", 2)),) * 2 + ((),)),
    (("ends", 1, (("x", 2), ("y", 1)), "x", 2), (("x", 1), ("y", 1), ("x", 1))),
    (("ends", 1, (("x", 2), ("y", 1)), "y", 0), (("x", 1), ("y", 1))),
    (("true counts", 2, (("a", 4), ("b", 1)), 6, (("a", 4), ("b", 1))), (("b", 1), ("a", 4))),
    (("mergeable", 1, (), ()), ((),) * 401),
    (("mergeable", 2, (("a", 2), ("b", 2), ("c", 2), ("d", 2)), ()), ((("a", 2), ("b", 2), ("c", 2), ("d", 2)),)),
    (("not mergeable", 2, (("a", 2), ("b", 2), ("c", 2)), ()), ("range", 2, 2)),
    (("not mergeable", 2, (("a", 5), ("b", 1)), (("b", 1),)), ("range", 5, 2)),
    (("not mergeable", 2, (("a", 5), ("b", 1)), (("b", 2),)), ("range", 5, 1)),
    (("not mergeable", 2, (("a", 1),), (("b", 1), ("c", 1))), ("gain", "a")),
    (("late", 2, (), (("a", 2), ("b", 1)), 0, "c", ("more", "c")), None),
    (("late", 2, (), (("a", 2), ("b", 1)), 3, "c", ("less",)), None),
    (("late", 2, (), (("a", 2), ("b", 1)), 0, "c", ("less",)), ()),
]


class EqualToAll:
    """Equal to any value, though it is none of the kinds of values of a claim."""

    def __eq__(self, other):
        return True


class CheckerTest(TallyTest):
    def check_accepts(self, claim, certificate, expected):
        self.assertIs(accepts(claim, certificate), expected)
        self.assertIs(accepts(certificate=certificate, claim=claim), expected)

    def check_like_said(self, claim, certificate):
        """Check that the claim is accepted exactly if all that is said about its form holds; return whether."""
        expected = is_said(claim, certificate)
        self.assertIs(accepts(claim, certificate), expected, (claim, certificate))
        return expected


class ReductionsTest(CheckerTest):
    def test_every_pair_of_numbers(self):
        # The range is from 2 to 4; four columns of three names are filled exactly.
        for capacity, arrivals in (
            (2, (("a", 4), ("b", 4), ("c", 2), ("d", 2))), (1, (("a", 3), ("b", 2), ("c", 2))),
            (1, (("a", 5), ("b", 5))),
            (3, tuple((name, 3) for name in names_of(12))), (2, (("a", 9), ("b", 7), ("c", 5), ("d", 3), ("e", 1))),
        ):
            least, greatest = reduction_range(capacity, arrivals)
            numbers = range(least, greatest + 1)
            orders = {number: order_with(capacity, arrivals, number) for number in numbers}
            for one in numbers:
                for other in numbers:
                    claim = ("reductions", capacity, arrivals, one, other)
                    self.check_accepts(claim, (orders[one], orders[other]), (one, other) == (least, greatest))
                    self.check_like_said(claim, (orders[one], orders[other]))
                    self.check_like_said(claim, (orders[least], orders[greatest]))
                    self.check_like_said(claim, (orders[other], orders[one]))
                    large = (scaled(orders[one], 10 ** 40), scaled(orders[other], 10 ** 40))
                    claim = ("reductions", capacity, scaled(arrivals, 10 ** 40), one * 10 ** 40, other * 10 ** 40)
                    self.check_like_said(claim, large)


class FormsTest(CheckerTest):
    def test_examples(self):
        claim = ("possible", 2, (), (("a", 2), ("b", 1), ("c", 1)), (("a", 1),))
        found = [accepts(claim, (("a", 2), ("b", 1), ("c", 1))), accepts(claim, (("a", 2), ("c", 1)))]
        self.check_value(found, [True, False])
        claim = ("impossible", 2, (("a", 1), ("b", 1)), (("c", 2), ("e", 2)), ())
        found = [accepts(claim, reason) for reason in (("columns", 1, 4), ("columns", 2, 6), ("many", "a"))]
        self.check_value(found, [True, False, False])
        order = (("a", 2), ("b", 1))
        found = [accepts(("late", 2, (), order, 0, "c", change), None) for change in (("less",), ("more", "c"))]
        self.check_value(found, [True, False])

    def test_parameters(self):
        self.assertEqual(list(inspect.signature(accepts).parameters), ["claim", "certificate"])

    def test_accepted(self):
        for claim, certificate in ACCEPTED:
            self.assertIs(is_said(claim, certificate), True, (claim, certificate))
            self.check_accepts(claim, certificate, True)

    def test_refused(self):
        for claim, certificate in REFUSED:
            self.assertIs(is_said(claim, certificate), False, (claim, certificate))
            self.check_accepts(claim, certificate, False)

    def test_all_reasons_that_apply(self):
        # Any name and any v will do, not only the first one.
        source = seeded(81)
        kinds = set()
        for capacity in CAPACITIES:
            for most in (1, 3, 8, 10 ** 30, SIXTY):
                for claim, _ in random_claims(source, capacity, most):
                    for reason in self.reasons(source, claim):
                        if self.check_like_said(claim, reason):
                            kinds.add(reason[0])
        self.assertEqual(kinds, {"gain", "sum", "few", "many", "columns", "range"})

    def reasons(self, source, claim):
        if claim[0] not in ("impossible", "not mergeable"):
            return []
        rows = [(word, name) for word in ("gain", "few", "many") for name in names_of(20)]
        counts = [part for part in claim[2:] if isinstance(part, tuple)]
        signs = (1, 1, -1) if len(counts) == 3 else (1, -1)
        units = sum(sign * total(row) for sign, row in zip(signs, counts))
        rows += [("sum", units), ("sum", units + claim[1] + 1), ("sum", -units)]
        depth = units // (claim[1] + 1)
        for first in {0, 1, 2, depth - 1, depth, depth + 1, depth // 2, source.randint(0, max(depth, 1))}:
            for found in self.column_sums(claim, depth, first):
                rows += [("columns", first, found), ("columns", first, found + 1)]
        least = max([-(-units // (2 * claim[1]))] + [count for _, count in counts[0]])
        return rows + [("range", least, depth), ("range", least + 1, depth), ("range", least, depth - 1)]

    def column_sums(self, claim, depth, first):
        if claim[0] != "impossible":
            return [first]
        held, lost = dict(claim[2]), {}
        for sign, row in ((1, claim[2]), (1, claim[3]), (-1, claim[4])):
            for name, count in row:
                lost[name] = lost.get(name, 0) + sign * count
        return [sum(max(0, min(held.get(name, 0), first), lost[name] - depth + first) for name in lost)]


class ProgramTest(CheckerTest):
    def test_certificates_of_the_program(self):
        source = seeded(82)
        forms = set()
        for capacity in CAPACITIES:
            for most in (1, 4, 10 ** 30, SIXTY):
                for _ in range(12):
                    for claim, certificate in random_claims(source, capacity, most):
                        self.assertIs(is_said(claim, certificate), True)
                        self.check_accepts(claim, certificate, True)
                        forms.add((claim[0], capacity))
        self.assertEqual(len(forms), 8 * 8)

    def test_certificates_of_other_claims(self):
        source = seeded(83)
        accepted = 0
        for capacity in (1, 2, 5, 8):
            rows = [pair for most in (1, 2, 3) for pair in random_claims(source, capacity, most)]
            for claim, _ in rows:
                for _, certificate in rows:
                    accepted += self.check_like_said(claim, certificate)
                for other, certificate in rows:
                    accepted += self.check_like_said((other[0], *claim[1:]), certificate)
        self.assertGreater(accepted, 80)

    def test_orders_at_the_limits(self):
        for capacity in (1, 8):
            order = (("a", 1), ("b", SIXTY)) * 500
            arrivals = (("a", 500), ("b", 500 * SIXTY))
            end = Summary(capacity).play(order).counts
            longer = order + (("b", 1),)
            self.check_accepts(("possible", capacity, (), arrivals, end), order, True)
            more = (("a", 500), ("b", 500 * SIXTY + 1))
            last = Summary(capacity).play(order).arrive("b").counts
            self.check_accepts(("possible", capacity, (), more, last), longer, False)
            self.check_accepts(("possible", capacity, (), more, last), order[:-1] + (("b", SIXTY + 1),), True)
            self.check_accepts(("late", capacity, (), order, 1000, "b", ("more", "b")), None, True)
            self.check_accepts(("late", capacity, (), longer, 0, "b", ("more", "b")), None, False)
            for order in (counts_of(12), names_as_order(12)):
                end = Summary(capacity).play(order).counts
                self.check_accepts(("possible", capacity, (), order, end), order, True)
                self.check_accepts(("true counts", capacity, end, total(order), order), order, True)
            order = names_as_order(13)
            end = Summary(capacity).play(order[:12]).arrive(order[12][0]).counts
            self.check_accepts(("possible", capacity, (), order, end), order, False)
            self.check_accepts(("late", capacity, (), order, 0, "a", ("more", "a")), None, False)

    def test_starts_of_other_names(self):
        source = seeded(84)
        start = Summary(8, tuple((name, SIXTY - at) for at, name in enumerate(names_of(20)[12:])))
        for most in (SIXTY // 10, SIXTY):
            order = random_order(source, names_of(12), 300, most)
            claim = ("possible", 8, start.counts, tuple(sorted(self.sums(order).items())), start.play(order).counts)
            self.check_accepts(claim, order, True)
            self.check_accepts(claim, order[:-1], False)

    def sums(self, order):
        sums = {}
        for name, times in order:
            sums[name] = sums.get(name, 0) + times
        return sums

    def test_plans_at_the_limits(self):
        for capacity in (1, 8):
            plan = ((("a", SIXTY),),) * 400
            for factor in (1, 3):
                large = tuple(scaled(order, factor) for order in plan)
                claim = ("mergeable", capacity, (("a", 400 * SIXTY * factor),), (("a", 400 * SIXTY * factor),))
                self.check_accepts(claim, large, True)
                self.check_accepts(claim, large + ((),), False)
            plan = tuple(((name, 5),) for name in names_of(12))
            self.check_accepts(("mergeable", 1, tuple((name, 5) for name in names_of(12)), ()), plan, True)
            plan = tuple(((name, 5),) for name in names_of(14))
            self.check_accepts(("mergeable", 1, tuple((name, 5) for name in names_of(14)), ()), plan, False)


class PutOtherwiseTest(CheckerTest):
    def test_one_value(self):
        accepted = 0
        for claim, certificate in ACCEPTED + REFUSED:
            if certificate == ((),) * 401:
                continue
            for other in varied(claim):
                accepted += self.check_like_said(other, certificate)
            if certificate == ((),) * 400:
                continue
            for other in varied(certificate):
                accepted += self.check_like_said(claim, other)
        self.assertGreater(accepted, 300)

    def test_one_value_of_claims_of_the_program(self):
        source = seeded(85)
        for capacity in CAPACITIES:
            for most in (1, 2, SIXTY):
                for claim, certificate in random_claims(source, capacity, most):
                    for other in source.sample(varied(claim), 60):
                        self.check_like_said(other, certificate)
                    others = varied(certificate)
                    for other in source.sample(others, min(60, len(others))):
                        self.check_like_said(claim, other)

    def test_two_values(self):
        source = seeded(86)
        for claim, certificate in ACCEPTED:
            if len(certificate or ()) > 99:
                continue
            for other in varied_twice(source, claim, 100):
                self.check_like_said(other, certificate)
            for other in varied_twice(source, certificate, 40):
                self.check_like_said(claim, other)
            claims, certificates = varied(claim), varied(certificate)
            for _ in range(100):
                self.check_like_said(source.choice(claims), source.choice(certificates))

    def test_counts_and_certificate_together(self):
        # The claim stays true in many cases, as both are multiplied.
        for claim, certificate in ACCEPTED:
            for factor in (1, 2, 10 ** 30):
                self.check_like_said(self.multiplied(claim, factor), self.multiplied(certificate, factor))

    def multiplied(self, thing, factor):
        is_pair = isinstance(thing, tuple) and len(thing) == 2 and isinstance(thing[1], int)
        if is_pair and thing[0] != "sum":
            return (thing[0], thing[1] * factor)
        return tuple(self.multiplied(part, factor) for part in thing) if isinstance(thing, tuple) else thing


class AnyValueTest(CheckerTest):
    THINGS = NO_SUMMARIES + [
        True, False, 0, 1, -1, SIXTY, "possible", ("possible",), nested(13), (nested(12),), [nested(12)], Summary(2),
        Summary(2, (("a", 1),)), Collector(2), (Summary(2),), accepts, {"possible": 1}, (None,) * 20, (("a", 1),),
        Exception, b"possible", frozenset(), "columns", ("columns",),
    ] + WRONG_CAPACITIES

    def test_claims_of_any_kind(self):
        for thing in self.THINGS:
            for certificate in (None, (), thing, ("gain", "a"), (("a", 1),)):
                self.assertIs(accepts(thing, certificate), False)
                self.assertIs(accepts((thing,), certificate), False)
                self.check_like_said((thing, 2, (), (), ()), certificate)

    def test_certificates_of_any_kind(self):
        for claim, _ in ACCEPTED:
            for thing in self.THINGS:
                self.check_like_said(claim, thing)
                for certificate in ((thing,), (thing, "a"), (thing, thing), ("gain", thing), ("sum", thing),
                                    ("columns", thing, 4), ("columns", 1, thing), ("range", thing, 1),
                                    ("few", thing), ("many", thing), (("a", thing),), ((thing, 1),)):
                    self.check_like_said(claim, certificate)

    def test_elements_of_any_kind(self):
        for claim, certificate in ACCEPTED[::2]:
            for at in range(len(claim)):
                for thing in self.THINGS:
                    self.check_like_said(put(claim, (at,), thing), certificate)
                self.assertIs(accepts(put(claim, (at,), WRONG_NAMES), certificate), False)
            for many in range(len(claim)):
                self.assertIs(accepts(claim[:many], certificate), False)
            for thing in self.THINGS:
                self.assertIs(accepts(claim + (thing,), certificate), False)
                self.assertIs(accepts(claim + claim[-1:] + (thing,), certificate), False)

    def test_names_of_any_kind(self):
        for name in WRONG_NAMES:
            for claim, certificate in [
                (("ends", 1, (), name, 0), ()), (("late", 1, (), (), 0, name, ("more", name)), None),
                (("possible", 1, (), ((name, 1),), ((name, 1),)), ((name, 1),)),
                (("possible", 1, ((name, 1),), (), ((name, 1),)), ()),
                (("true counts", 1, ((name, 1),), 1, ((name, 1),)), ((name, 1),)),
                (("mergeable", 1, ((name, 1),), ((name, 1),)), (((name, 1),),)),
                (("impossible", 1, (), (), ((name, 1),)), ("gain", name)),
                (("impossible", 1, (), ((name, 2),), ()), ("many", name)),
                (("not mergeable", 1, (), ((name, 1),)), ("gain", name)),
            ]:
                self.assertIs(accepts(claim, certificate), False)

    def test_lists_and_truths_at_any_depth(self):
        for claim, certificate in ACCEPTED:
            self.assertIs(accepts(list(claim), certificate), False)
            if isinstance(certificate, tuple):
                self.assertIs(accepts(claim, list(certificate)), False)
        claim = ("possible", 1, (("a", 1),), (("b", 1),), ())
        self.check_accepts(claim, (("b", 1),), True)
        for other in (
            ("possible", True, *claim[2:]), ("possible", 1, (("a", True),), *claim[3:]),
            ("possible", 1, (["a", 1],), *claim[3:]), ("possible", 1, claim[2], (("b", True),), ()),
            ("possible", 1, claim[2], [("b", 1)], ()), ("possible", 1, claim[2], (("b", 1),), []),
            ("possible", 1, claim[2], (("b", "1"),), ()), ("possible", "1", *claim[2:]),
        ):
            self.check_accepts(other, (("b", 1),), False)
        for certificate in ((("b", True),), [("b", 1)], (["b", 1],), (("b", "1"),), ("b", 1)):
            self.check_accepts(claim, certificate, False)

    def test_values_that_are_equal_to_all(self):
        equal = EqualToAll()
        for claim, certificate in ACCEPTED:
            for path in places_in(claim):
                self.assertIs(accepts(put(claim, path, equal), certificate), False)
            for path in places_in(certificate)[:20]:
                self.assertIs(accepts(claim, put(certificate, path, equal)), False)

    def test_arguments_stay(self):
        claim = ["possible", 2, [["a", 1]], (("a", [1]),), {"a": 1}]
        accepts(tuple(claim), claim)
        self.assertEqual(claim, ["possible", 2, [["a", 1]], (("a", [1]),), {"a": 1}])
