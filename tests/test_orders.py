"""Promises 4, 5 and 6: orders."""

import copy
import itertools
import re

from tallyplans.counts import added, is_counts
from tallyplans.errors import InvalidOrder, InvalidText
from tallyplans.orders import arrivals_of, format_order, is_order, parse_order, shortened
from tests.helpers import TallyTest
from tests.samples import NO_TUPLES, SIXTY, WRONG_COUNTS, WRONG_NAMES, WRONG_PAIRS, counts_of, names_of

SMALL_ORDERS = [
    order
    for many in range(5)
    for order in itertools.product(list(itertools.product(["a", "b", "ab"], [1, 2])), repeat=many)
]

LARGE_ORDERS = [
    (("b", SIXTY), ("a", 10 ** 59), ("a", 1), ("b", 1)),
    (("abcdefgh", 10), ("zzzzzzzz", 100), ("z", 9), ("abcdefgh", 11)),
    tuple(reversed(counts_of(12))) + counts_of(12),
    (("a", 1),) * 1000,
    (("a", 2), ("b", 1)) * 500,
    (("b", SIXTY), ("b", SIXTY), ("a", 1), ("a", 7)) * 250,
    tuple((names_of(12)[at * 5 % 12], 1 + at % 3) for at in range(1000)),
]

GOOD_ORDERS = SMALL_ORDERS + LARGE_ORDERS

GOOD_TEXTS = [
    "-", "a", "z", "abcdefgh", "a*2", "a*9", "a*10", "a*100", "abcdefgh*19", "a a", "a*2 a*3", "b*2 a", "a b*2 c*30 a",
    "a*" + str(SIXTY), "a b c d e f g h i j k l", "l*2 k a*11",
]

RUN = r"[a-z]{1,8}(\*([2-9]|[1-9][0-9]+))?"


def is_text_of_an_order(text):
    """Return whether some order has the text, by the words of the document."""
    if not re.fullmatch(f"-|{RUN}( {RUN})*", text):
        return False
    names = [word.split("*")[0] for word in text.split(" ")]
    return len(names) <= 1000 and len(set(names)) <= 12


def single_arrivals(order):
    return [name for name, times in order for _ in range(times)]


class OrdersTest(TallyTest):
    def test_examples(self):
        self.check_value([is_order((("a", 2), ("a", 1))), is_order((("a", 0),)), is_order(["a"])], [True, False, False])
        self.check_value(arrivals_of((("b", 2), ("a", 1), ("b", 3))), (("a", 1), ("b", 5)))
        self.check_value(shortened((("b", 2), ("b", 3), ("a", 1), ("b", 1))), (("b", 5), ("a", 1), ("b", 1)))

    def test_is_order(self):
        for order in GOOD_ORDERS:
            self.assertIs(is_order(order), True)
            self.assertIs(is_order(thing=order), True)

    def test_arrivals_of(self):
        for order in GOOD_ORDERS:
            names = sorted({name for name, _ in order})
            expected = tuple((name, sum(times for item, times in order if item == name)) for name in names)
            self.check_value(arrivals_of(order), expected)
            self.check_value(arrivals_of(order=order), expected)
            self.assertIs(is_counts(expected), True)

    def test_shortened(self):
        for order in GOOD_ORDERS:
            groups = [(name, list(runs)) for name, runs in itertools.groupby(order, key=lambda run: run[0])]
            expected = tuple((name, sum(times for _, times in runs)) for name, runs in groups)
            self.check_value(shortened(order), expected)
            self.check_value(shortened(order=order), expected)
            self.check_value(shortened(expected), expected)
            self.check_value(arrivals_of(expected), arrivals_of(order))

    def test_shortened_keeps_each_arrival_in_its_place(self):
        for order in SMALL_ORDERS:
            self.assertEqual(single_arrivals(shortened(order)), single_arrivals(order))

    def test_nothing_changes(self):
        for order in GOOD_ORDERS:
            before = copy.deepcopy(order)
            is_order(order)
            arrivals_of(order)
            shortened(order)
            format_order(order)
            self.check_value(order, before)


class TextsTest(TallyTest):
    def check_text(self, text):
        if is_text_of_an_order(text):
            order = parse_order(text)
            self.assertIs(is_order(order), True)
            self.check_value(format_order(order), text)
        else:
            self.check_raises(InvalidText, {"text": text}, parse_order, text)

    def test_examples(self):
        found = [format_order((("b", 2), ("a", 1))), parse_order("b*2 a"), parse_order("-")]
        self.check_value(found, ["b*2 a", (("b", 2), ("a", 1)), ()])
        self.check_raises(InvalidText, {"text": "b*1"}, parse_order, "b*1")

    def test_format_and_parse(self):
        for order in GOOD_ORDERS:
            words = [name if times == 1 else f"{name}*{times}" for name, times in order]
            text = " ".join(words) if words else "-"
            self.check_value(format_order(order), text)
            self.check_value(format_order(order=order), text)
            self.check_value(parse_order(text), order)
            self.check_value(parse_order(text=text), order)

    def test_good_texts(self):
        for text in GOOD_TEXTS:
            self.assertTrue(is_text_of_an_order(text))
            self.check_text(text)

    def test_all_short_texts(self):
        for many in range(6):
            for letters in itertools.product("aB*012 -", repeat=many):
                self.check_text("".join(letters))

    def test_changed_texts(self):
        for text in GOOD_TEXTS:
            for at in range(len(text) + 1):
                self.check_text(text[:at] + text[at + 1:])
                self.check_text(text[:at] + text[at:at + 2][::-1] + text[at + 2:])
                for sign in " *-+:.,0129azAZ_\n`{/":
                    self.check_text(text[:at] + sign + text[at:])
                    self.check_text(text[:at] + sign + text[at + 1:])

    def test_changed_words(self):
        for text in GOOD_TEXTS:
            words = text.split(" ")
            for at in range(len(words)):
                word = words[at]
                for other in ("", "-", word, word.upper(), word + "*1", word + "*2", "a*02", "a*", "*2"):
                    self.check_text(" ".join(words[:at] + [other] + words[at:]))
                    self.check_text(" ".join(words[:at] + [other] + words[at + 1:]))

    def test_rejected_texts(self):
        rows = [
            "", " ", "--", "- -", "- a", "a -", "-a", " a", "a ", "a  b", "a\tb", "a\n", "\na", "a\nb", "a,b", "a*",
            "*", "*2", "a**2", "a*2*3", "a*0", "a*1", "a*00", "a*01", "a*02", "a*+2", "a*-2", "a* 2", "a *2", "a*2 ",
            "a*1_0", "a*2.0", "a*x", "a:2", "a2", "2*a", "A", "Ab", "a*2 B", "abcdefghi", "abcdefghi*2",
            "a*0" + "9" * 59, "a*\u0662", "a*\xb2", "\xe9", "\xaa",
        ]
        for text in rows:
            self.assertFalse(is_text_of_an_order(text))
            self.check_raises(InvalidText, {"text": text}, parse_order, text)
            self.check_raises(InvalidText, {"text": text}, parse_order, text=text)

    def test_limits_of_a_text(self):
        self.assertEqual(len(parse_order(" ".join(["a"] * 1000))), 1000)
        for text in (" ".join(["a"] * 1001), " ".join("abcdefghijklm"), " ".join("abcdefghijkl" * 2 + "z")):
            self.check_raises(InvalidText, {"text": text}, parse_order, text)
        self.assertEqual(len(parse_order(" ".join("abcdefghijkl" * 2))), 24)

    def test_no_text(self):
        for thing in [thing for thing in NO_TUPLES if not isinstance(thing, str)] + [(), ("a",), (("a", 1),), ("-",)]:
            self.check_raises(InvalidText, {"text": thing}, parse_order, thing)
        self.check_value(parse_order("a"), (("a", 1),))

    def test_numbers_around_a_block_of_digits(self):
        for digits in (59, 60, 61, 119, 120, 121, 180):
            for number in (10 ** digits - 1, 10 ** digits, 10 ** digits + 7):
                order = (("a", number), ("b", 1), ("a", 1 + number))
                text = f"a*{number} b a*{number + 1}"
                self.check_value(format_order(order), text)
                self.check_value(parse_order(text), order)

    def test_returned_values_of_any_size(self):
        counts = (("a", 1), ("b", SIXTY))
        for _ in range(20000):
            counts = added(counts, counts)
        text = format_order(counts)
        self.assertEqual(len(text), len("a*") + 6021 + len(" b*") + 6081)
        self.assertRegex(text, r"\Aa\*[1-9][0-9]* b\*[1-9][0-9]*\Z")
        self.assertEqual(parse_order(text), counts)
        self.assertEqual(shortened(counts + counts), counts + counts)
        self.assertEqual(arrivals_of(counts + counts), added(counts, counts))


class WrongOrdersTest(TallyTest):
    def check_rejected(self, thing, index):
        self.assertIs(is_order(thing), False)
        for call in (arrivals_of, shortened, format_order):
            self.check_raises(InvalidOrder, {"index": index}, call, thing)
            self.check_raises(InvalidOrder, {"index": index}, call, order=thing)

    def test_no_tuple(self):
        for thing in NO_TUPLES:
            self.check_rejected(thing, None)

    def test_least_index(self):
        orders = [(), (("a", 1),), (("b", 2), ("a", SIXTY), ("b", 1)), counts_of(12), (("a", 3), ("a", 1)) * 2]
        for order in orders:
            for at in range(len(order) + 1):
                for wrong in WRONG_PAIRS:
                    self.check_rejected(order[:at] + (wrong,) + order[at:], at)
                    self.check_rejected(order[:at] + (wrong,) + order[at + 1:], at)

    def test_each_wrong_name_and_times(self):
        for name in WRONG_NAMES:
            self.check_rejected((("a", 1), (name, 1)), 1)
        for times in WRONG_COUNTS:
            self.check_rejected((("b", 1), ("a", times)), 1)

    def test_first_of_several_faults(self):
        self.check_rejected((("a", 1), ("b", 0), None), 1)
        self.check_rejected((("a", True), ("b", False)), 0)
        self.check_rejected(tuple((name, 1) for name in "abcdefghijklm") + (None,), 12)
        self.check_rejected(tuple((name, 1) for name in "abcdefghijkl") + (None, ("m", 1)), 12)

    def test_thirteenth_name(self):
        twelve = tuple((name, 1) for name in "lkjihgfedcba")
        self.assertIs(is_order(twelve * 3), True)
        self.check_rejected(twelve + (("m", 1),), 12)
        self.check_rejected(twelve * 3 + (("m", 1), ("a", 1), ("n", 1)), 36)
        self.check_rejected(twelve[:11] + (("a", 0),) + (("m", 1),), 11)
        self.check_rejected((("a", 1),) * 500 + twelve + (("zz", 1),) * 10, 512)

    def test_run_1001(self):
        self.assertIs(is_order((("a", 1),) * 1000), True)
        self.check_rejected((("a", 1),) * 1001, 1000)
        self.check_rejected((("a", 1), ("b", SIXTY)) * 1000, 1000)
        self.check_rejected((("a", 1),) * 1000 + (None,), 1000)
        self.check_rejected((("a", 1),) * 999 + (None, ("a", 1)), 999)

    def test_lists_inside_do_not_change(self):
        for thing in ([("a", 1)], (["a", 1],), (("a", [1]),), (("a", 1), [])):
            before = copy.deepcopy(thing)
            index = None if isinstance(thing, list) else len(thing) - 1
            self.check_rejected(thing, index)
            self.assertEqual(thing, before)

    def test_good_orders_are_accepted_after_errors(self):
        order = (("b", 2), ("a", 1), ("b", 3))
        for thing, index in ((None, None), ((("a", 0),), 0), ((("a", 1),) * 1001, 1000)):
            self.check_rejected(thing, index)
            self.check_raises(InvalidText, {"text": thing}, parse_order, thing)
            self.check_value([is_order(order), arrivals_of(order)], [True, (("a", 1), ("b", 5))])
            self.check_value([shortened(order), format_order(order)], [order, "b*2 a b*3"])
            self.check_value(parse_order("b*2 a b*3"), order)
