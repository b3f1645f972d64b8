"""Promises 1, 2 and 3: counts."""

import copy

from tallyplans.counts import added, count_of, is_counts, total
from tallyplans.errors import InvalidCounts, InvalidName, TooManyNames
from tests.helpers import TallyTest
from tests.samples import GOOD_COUNTS, GOOD_NAMES, NO_TUPLES, SIXTY, WRONG_COUNTS, WRONG_NAMES, counts_of, names_of
from tests.samples import spoiled_counts


class GoodCountsTest(TallyTest):
    def test_example_of_is_counts(self):
        rows = [(("a", 2), ("b", 1)), (("b", 1), ("a", 2)), (("a", 0),), ()]
        self.check_value([is_counts(row) for row in rows], [True, False, False, True])

    def test_example_of_total(self):
        self.check_value(total((("a", 2), ("b", 10 ** 30))), 1000000000000000000000000000002)

    def test_example_of_count_of(self):
        self.check_value([count_of((("a", 2), ("b", 1)), "a"), count_of((("a", 2),), "zeta")], [2, 0])

    def test_is_counts(self):
        for counts in GOOD_COUNTS:
            self.assertIs(is_counts(counts), True)
            self.assertIs(is_counts(thing=counts), True)

    def test_names(self):
        for name in GOOD_NAMES:
            self.assertIs(is_counts(((name, 1),)), True)

    def test_total(self):
        for counts in GOOD_COUNTS:
            expected = sum(count for _, count in counts)
            self.check_value(total(counts), expected)
            self.check_value(total(counts=counts), expected)
        self.check_value(total(()), 0)

    def test_count_of(self):
        for counts in GOOD_COUNTS:
            for name in names_of(13) + GOOD_NAMES + ["b", "bb", "zzz"]:
                expected = dict(counts).get(name, 0)
                self.check_value(count_of(counts, name), expected)
                self.check_value(count_of(name=name, counts=counts), expected)

    def test_nothing_changes(self):
        for counts in GOOD_COUNTS:
            before = copy.deepcopy(counts)
            is_counts(counts)
            total(counts)
            count_of(counts, "a")
            added(counts, counts)
            self.check_value(counts, before)


class WrongCountsTest(TallyTest):
    def check_rejected(self, thing, index):
        self.assertIs(is_counts(thing), False)
        self.check_raises(InvalidCounts, {"index": index}, total, thing)
        self.check_raises(InvalidCounts, {"index": index}, count_of, thing, "a")
        self.check_raises(InvalidCounts, {"index": index}, added, thing, ())
        self.check_raises(InvalidCounts, {"index": index}, added, (("a", 1),), thing)

    def test_examples(self):
        self.check_raises(InvalidCounts, {"index": 1}, total, (("a", 2), ("a", 1)))
        self.check_raises(InvalidName, {"name": "A"}, count_of, (("a", 2),), "A")

    def test_no_tuple(self):
        for thing in NO_TUPLES:
            self.check_rejected(thing, None)

    def test_least_index(self):
        for thing, index in spoiled_counts():
            self.check_rejected(thing, index)

    def test_each_wrong_name_and_count(self):
        for name in WRONG_NAMES:
            self.check_rejected(((name, 1),), 0)
        for count in WRONG_COUNTS:
            self.check_rejected((("a", 1), ("b", count)), 1)

    def test_True_is_never_a_count(self):
        self.check_rejected((("a", True),), 0)
        self.check_rejected((("a", 1), ("b", 1), ("c", False)), 2)

    def test_first_of_several_faults(self):
        self.check_rejected((("b", 1), ("a", 1), ("A", 1), None), 1)
        self.check_rejected((None, ("a", 0)), 0)
        self.check_rejected((("a", 1), ("c", 1), ("b", 1), ("c", 1)), 2)

    def test_thirteen_pairs(self):
        self.assertIs(is_counts(counts_of(12)), True)
        self.check_rejected(counts_of(13), 12)
        self.check_rejected(counts_of(20), 12)
        self.check_rejected(counts_of(11) + (("a", 1),) + counts_of(13)[11:], 11)
        self.check_rejected(counts_of(12) + (None,), 12)

    def test_wrong_things_inside_do_not_change(self):
        for thing in ([("a", 1)], (["a", 1],), (("a", [1]),), {"a": 1}):
            before = copy.deepcopy(thing)
            self.check_raises(InvalidCounts, {"index": None if not isinstance(thing, tuple) else 0}, total, thing)
            self.assertEqual(thing, before)

    def test_wrong_name(self):
        for counts in ((), (("a", 2),), counts_of(12)):
            for name in WRONG_NAMES:
                self.check_raises(InvalidName, {"name": name}, count_of, counts, name)
                self.check_raises(InvalidName, {"name": name}, count_of, name=name, counts=counts)

    def test_counts_are_asked_before_the_name(self):
        self.check_raises(InvalidCounts, {"index": 0}, count_of, (("A", 1),), "A")
        self.check_raises(InvalidCounts, {"index": None}, count_of, None, None)

    def test_added_asks_its_first_argument_first(self):
        two_wrong = (("a", 1), ("a", 1))
        self.check_raises(InvalidCounts, {"index": None}, added, [], two_wrong)
        self.check_raises(InvalidCounts, {"index": 1}, added, two_wrong, [])
        self.check_raises(InvalidCounts, {"index": 1}, added, other=[], one=two_wrong)
        self.check_raises(InvalidCounts, {"index": None}, added, other=two_wrong, one=[])

    def test_wrong_counts_are_asked_before_too_many_names(self):
        self.check_raises(InvalidCounts, {"index": 12}, added, counts_of(12), counts_of(13))
        self.check_raises(InvalidCounts, {"index": 12}, added, counts_of(13), counts_of(12))

    def test_good_counts_are_accepted_after_errors(self):
        counts = (("a", 2), ("b", 1))
        for thing in (None, (("a", 0),), counts_of(13), (("b", 1), ("a", 2))):
            self.check_rejected(thing, None if thing is None else {1: 0, 13: 12, 2: 1}[len(thing)])
            self.assertIs(is_counts(counts), True)
            self.check_value([total(counts), count_of(counts, "a"), added(counts, ())], [3, 2, counts])


class AddedTest(TallyTest):
    def check_added(self, one, other):
        names = sorted(set(dict(one)) | set(dict(other)))
        if len(names) > 12:
            self.check_raises(TooManyNames, {"found": len(names)}, added, one, other)
            self.check_raises(TooManyNames, {"found": len(names)}, added, other=one, one=other)
            return
        expected = tuple((name, dict(one).get(name, 0) + dict(other).get(name, 0)) for name in names)
        self.check_value(added(one, other), expected)
        self.check_value(added(other, one), expected)
        self.check_value(added(one=one, other=other), expected)
        self.check_value(added(other=one, one=other), expected)
        self.assertIs(is_counts(expected), True)

    def test_examples(self):
        self.check_value(added((("a", 2), ("c", 1)), (("b", 4), ("c", 5))), (("a", 2), ("b", 4), ("c", 6)))
        one = tuple((name, 1) for name in "abcdefg")
        other = tuple((name, 1) for name in "hijklm")
        self.check_raises(TooManyNames, {"found": 13}, added, one, other)

    def test_all_pairs_of_good_counts(self):
        for one in GOOD_COUNTS:
            for other in GOOD_COUNTS:
                before = copy.deepcopy([one, other])
                self.check_added(one, other)
                self.check_value([one, other], before)

    def test_twelve_and_more_names(self):
        letters = "abcdefghijklmnopqrstuvwx"
        for many in range(13):
            one = tuple((name, 1) for name in letters[:many])
            for first in range(13):
                other = tuple((name, 10 ** 59) for name in letters[first:first + 12])
                self.check_added(one, other)

    def test_neighbouring_names(self):
        self.check_added((("a", 1), ("ab", 2), ("b", 3)), (("aa", 4), ("ab", 5), ("abc", 6)))

    def test_returned_counts_of_any_size(self):
        counts = (("a", 1), ("b", SIXTY))
        for _ in range(20000):
            counts = added(counts, counts)
        self.assertEqual(counts, (("a", 2 ** 20000), ("b", SIXTY * 2 ** 20000)))
        self.assertIs(is_counts(counts), True)
        self.assertEqual(total(counts), 10 ** 60 * 2 ** 20000)
        self.assertEqual(count_of(counts, "a"), 2 ** 20000)
