"""Promises 57 to 59: the replacing rule."""

import copy

from tallyplans.errors import InvalidName, InvalidOrder, InvalidSlots, InvalidSummary, InvalidTimes
from tallyplans.replacing import Replacing
from tallyplans.summaries import Summary
from tests.helpers import TallyTest
from tests.reference import random_counts, random_order, scaled, seeded, small_counts
from tests.references import above, replaced_once, replaced_singly
from tests.samples import (
    GOOD_COUNTS, NO_TUPLES, SIXTY, WRONG_COUNTS, WRONG_NAMES, WRONG_PAIRS, counts_of, names_of, nested, spoiled_counts,
    spoiled_orders,
)

SLOTS = [2, 3, 4, 5, 6, 7, 8, 9]

WRONG_SLOTS = [
    1, 0, 10, 11, -1, -2, SIXTY, -SIXTY, True, False, None, "", "2", b"2", b"\x02", (), (2,), [], [2], {}, {2: 2}, {2},
    object(), int, len, range(3), nested(11),
]


def some_slots():
    """Return objects of all numbers of slots: empty, partly full and full ones, with ties and large counts."""
    source = seeded(57)
    rows = []
    for slots in SLOTS:
        for pairs in sorted({0, 1, slots // 2, slots - 1, slots}):
            for most in (1, 2, 9, SIXTY):
                rows.append(Replacing(slots, random_counts(source, source.sample(names_of(14), pairs), most)))
    return rows


class CreatedTest(TallyTest):
    def test_examples(self):
        slots = Replacing(2).play((("a", 3), ("b", 1), ("c", 1)))
        found = [str(slots), slots.least(), repr(slots.above_least()), str(slots.arrive("d", 5))]
        self.check_value(found, ["a:3 c:2", 2, "Summary(1, 'a:1')", "a:3 d:7"])
        self.check_raises(InvalidSlots, {"slots": 1}, Replacing, 1)

    def check_created(self, thing, slots, counts):
        self.check_value([thing.slots, thing.counts], [slots, counts])
        self.assertEqual(sorted(vars(thing)), ["counts", "slots"])
        self.check_value([len(thing), bool(thing)], [len(counts), len(counts) > 0])
        text = " ".join(f"{name}:{count}" for name, count in counts) or "-"
        self.check_value([str(thing), repr(thing)], [text, f"Replacing({slots}, '{text}')"])
        least = 0 if len(counts) < slots else min(count for _, count in counts)
        self.check_value(thing.least(), least)
        self.check_value(thing.above_least(), Summary(slots - 1, above(slots, counts)))

    def test_by_position_by_name_and_left_out(self):
        for slots in SLOTS:
            for counts in [row for row in GOOD_COUNTS if len(row) <= slots]:
                self.check_created(Replacing(slots, counts), slots, counts)
                self.check_created(Replacing(slots, counts=counts), slots, counts)
                self.check_created(Replacing(counts=counts, slots=slots), slots, counts)
            self.check_created(Replacing(slots), slots, ())
            self.check_created(Replacing(slots=slots), slots, ())
            ties = tuple((name, 7) for name in "abcdefghi"[:slots])
            self.check_created(Replacing(slots, ties), slots, ties)

    def test_equal_exactly_if_both_attributes_are(self):
        counts = [(), (("a", 1),), (("a", 2),), (("b", 1),), counts_of(2)]
        rows = [(slots, row) for slots in SLOTS for row in counts]
        for one in rows:
            for other in rows:
                self.assertIs(Replacing(*one) == Replacing(*other), one == other)
                self.assertIs(Replacing(*one) != Replacing(*other), one != other)

    def test_nothing_of_another_class_is_equal(self):
        thing = Replacing(2, (("a", 1),))
        others = [Summary(2, (("a", 1),)), Summary(1), (2, (("a", 1),)), (("a", 1),), "a:1", str(thing), repr(thing)]
        for other in NO_TUPLES + others:
            self.assertIs(thing == other, False)
            self.assertIs(other == thing, False)
            self.assertIs(thing != other, True)
            self.assertIs(Replacing(2) == other, False)


class ArriveTest(TallyTest):
    def check_arrive(self, before, name, times, expected):
        counts = copy.deepcopy(before.counts)
        for after in (before.arrive(name, times), before.arrive(times=times, name=name)):
            self.assertIs(after.__class__, Replacing)
            self.check_value([after.slots, after.counts], [before.slots, expected])
        if times == 1:
            self.check_value(before.arrive(name), Replacing(before.slots, expected))
            self.check_value(before.arrive(name=name), Replacing(before.slots, expected))
        self.check_value(before.counts, counts)

    def test_single_arrivals(self):
        for slots in (2, 3):
            for counts in small_counts("abcd", 3, slots):
                for name in ("a", "b", "d", "zeta"):
                    self.check_arrive(Replacing(slots, counts), name, 1, replaced_once(slots, counts, name))

    def test_many_at_once(self):
        for before in some_slots():
            for name in names_of(14)[::3] + ["zeta"] + [name for name, _ in before.counts]:
                for times in (1, 2, 5):
                    expected = replaced_singly(before.slots, before.counts, ((name, times),))
                    self.check_arrive(before, name, times, expected)
                once = dict(replaced_once(before.slots, before.counts, name))
                for times in (10 ** 30 - 1, SIXTY):
                    expected = {**once, name: once[name] + times - 1}
                    self.check_arrive(before, name, times, tuple(sorted(expected.items())))

    def test_least_name_of_a_tie(self):
        before = Replacing(3, (("b", 2), ("c", 2), ("d", 5)))
        self.check_arrive(before, "a", 1, (("a", 3), ("c", 2), ("d", 5)))
        self.check_arrive(before, "z", 4, (("c", 2), ("d", 5), ("z", 6)))
        before = Replacing(3, (("b", 2), ("c", 1), ("d", 1)))
        self.check_arrive(before, "a", 1, (("a", 2), ("b", 2), ("d", 1)))

    def test_a_free_slot(self):
        self.check_arrive(Replacing(2, (("b", 7),)), "a", 3, (("a", 3), ("b", 7)))
        self.check_arrive(Replacing(2), "a", SIXTY, (("a", SIXTY),))


class PlayTest(TallyTest):
    def check_play(self, before, order, expected):
        counts = copy.deepcopy(before.counts)
        for after in (before.play(order), before.play(order=order)):
            self.assertIs(after.__class__, Replacing)
            self.check_value([after.slots, after.counts], [before.slots, expected])
        self.check_value(before.counts, counts)

    def test_small(self):
        source = seeded(58)
        for before in some_slots():
            for runs in (0, 1, 2, 12):
                for names in (names_of(4), names_of(14)[2:]):
                    order = random_order(source, names, runs, 4)
                    self.check_play(before, order, replaced_singly(before.slots, before.counts, order))

    def test_1000_runs_and_large_counts(self):
        source = seeded(59)
        for slots in SLOTS:
            counts = random_counts(source, names_of(slots), 9)
            for most in (1, 6):
                order = random_order(source, names_of(14)[2:], 1000, most)
                expected = replaced_singly(slots, counts, order)
                self.check_play(Replacing(slots, counts), order, expected)
                large = [scaled(row, 10 ** 30 + 7) for row in (counts, order, expected)]
                self.check_play(Replacing(slots, large[0]), large[1], large[2])

    def test_no_run(self):
        for before in some_slots():
            self.check_play(before, (), before.counts)


class ErrorsTest(TallyTest):
    def test_no_slots(self):
        for slots in WRONG_SLOTS:
            fields = {"slots": slots}
            for counts in ((), (("a", 1),), None, [("a", 1)], (("a", 0),), counts_of(10)):
                self.check_raises(InvalidSlots, fields, Replacing, slots, counts)
            self.check_raises(InvalidSlots, fields, Replacing, slots)
            self.check_raises(InvalidSlots, fields, Replacing, counts=None, slots=slots)

    def test_no_counts(self):
        for slots in SLOTS:
            for thing in NO_TUPLES:
                self.check_raises(InvalidSummary, {"index": None}, Replacing, slots, thing)
            for wrong in WRONG_PAIRS:
                self.check_raises(InvalidSummary, {"index": 0}, Replacing, slots, (wrong,))
                self.check_raises(InvalidSummary, {"index": 1}, Replacing, slots, counts=(("a", 1), wrong))

    def test_least_index(self):
        for thing, index in spoiled_counts()[::2]:
            for slots in (2, 5, 9):
                self.check_raises(InvalidSummary, {"index": min(index, slots)}, Replacing, slots, thing)

    def test_one_pair_too_many(self):
        for slots in SLOTS:
            for many in range(slots + 1, 14):
                self.check_raises(InvalidSummary, {"index": slots}, Replacing, slots, counts_of(many))

    def test_wrong_arrivals(self):
        before = Replacing(2, (("a", 1), ("b", 2)))
        for name in WRONG_NAMES:
            for times in (1, 0, None):
                self.check_raises(InvalidName, {"name": name}, before.arrive, name, times)
            self.check_raises(InvalidName, {"name": name}, before.arrive, name=name)
        for times in WRONG_COUNTS:
            self.check_raises(InvalidTimes, {"times": times}, before.arrive, "a", times)
            self.check_raises(InvalidTimes, {"times": times}, before.arrive, times=times, name="c")
        self.check_value(before, Replacing(2, (("a", 1), ("b", 2))))

    def test_no_order(self):
        before = Replacing(2, (("a", 1), ("b", 2)))
        for thing in NO_TUPLES:
            self.check_raises(InvalidOrder, {"index": None}, before.play, thing)
        for thing, index in spoiled_orders():
            self.check_raises(InvalidOrder, {"index": index}, before.play, order=thing)
        self.check_value(before, Replacing(2, (("a", 1), ("b", 2))))
