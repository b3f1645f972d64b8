"""Values that several tests share."""

from tallyplans.summaries import Summary

LETTERS = "abcdefghijklmnopqrstuvwxyz"
SIXTY = 10 ** 60 - 1


def nested(levels):
    """Return lists, tuples and dictionaries, so many levels deep."""
    thing = ()
    for level in range(levels - 1):
        thing = ([thing], (thing,), {"a": thing})[level % 3]
    return thing


# None of these is a tuple.
NO_TUPLES = [
    None, True, False, 0, 1, -1, SIXTY, "", "-", "a", "a:1", b"", b"a", [], [()], [("a", 1)], ["a", 1],
    {}, {"a": 1}, {("a", 1): 1}, set(), {("a", 1)}, frozenset(), object(), range(2), iter(()), len, tuple,
    ValueError("a"), [nested(11)], {"a": nested(11)}, lambda: (),
]

GOOD_NAMES = ["a", "z", "az", "abcdefgh", "zzzzzzzz"]

WRONG_NAMES = [
    "", "abcdefghi", "zzzzzzzzz", "A", "aB", "Abc", "a1", "1", "a ", " a", " ", "a\n", "\n", "a-b", "a_b",
    "a*2", "a:1", "-", "`", "{", "@", "[", "\xe9", "\xaa", "\xdf", "\u0430", "a\u0301", "\ud800",
    None, True, False, 0, 1, b"a", b"", ("a",), (), ["a"], [], {"a": 1}, {}, {"a"}, object(), str, nested(11),
]

# None of these is an integer from 1 on.
WRONG_COUNTS = [
    0, -1, -SIXTY, True, False, None, "1", "", b"1", (1,), (), [1], [], {1: 1}, {}, {1}, object(), int, nested(11),
]

# None of these is a pair of a name and an integer from 1 on.
WRONG_PAIRS = (
    NO_TUPLES
    + [(), ("a",), (1,), ("a", 1, 1), ("a", 1, None), (("a", 1),), (("a", 1), ("b", 1))]
    + ["a1", (1, "a"), ("a", "a"), (1, 1)]
    + [(name, 1) for name in WRONG_NAMES]
    + [("a", count) for count in WRONG_COUNTS]
    + [("", 0), ("A", True), nested(12)]
)


def names_of(many):
    """Return so many different names, ascending, of one to eight letters."""
    return [LETTERS[at] * (1 + at % 8) for at in range(many)]


def counts_of(many):
    """Return counts with so many pairs, small and large."""
    return tuple((name, (1, 7, SIXTY, 10 ** 59)[at % 4] + at * (at % 4 < 2)) for at, name in enumerate(names_of(many)))


GOOD_COUNTS = [counts_of(many) for many in range(13)] + [
    (("a", 1),),
    (("a", 1), ("aa", 1)),
    (("a", SIXTY), ("abcdefgh", 1), ("b", 10 ** 80)),
    (("abcdefgh", 2), ("z", 1), ("zzzzzzzz", 3)),
]


def spoiled_counts():
    """Return pairs: a tuple that is not counts, and the least index up to which it is not."""
    rows = []
    for counts in GOOD_COUNTS:
        for at in range(len(counts)):
            for wrong in WRONG_PAIRS:
                rows.append((counts[:at] + (wrong,) + counts[at + 1:], at))
            for wrong in WRONG_PAIRS[::7]:
                rows.append((counts[:at] + (wrong,) + counts[at:], at))
            rows.append((counts[:at + 1] + counts[at:], at + 1))
            rows.append((counts[:at + 1] + ((counts[at][0], counts[at][1] + 1),) + counts[at + 1:], at + 1))
        for at in range(len(counts) - 1):
            rows.append((counts[:at] + (counts[at + 1], counts[at]) + counts[at + 2:], at + 1))
        for wrong in WRONG_PAIRS[::5]:
            rows.append((counts + (wrong,), len(counts)))
    return rows


def spoiled_orders():
    """Return pairs: a tuple that is not an order, and the least index up to which it is not."""
    rows = []
    for order in [(), (("a", 1),), (("b", 2), ("a", SIXTY), ("b", 1)), counts_of(12)]:
        for at in range(len(order) + 1):
            for wrong in WRONG_PAIRS:
                rows.append((order[:at] + (wrong,) + order[at:], at))
    rows.append((counts_of(13), 12))
    rows.append((counts_of(12) * 2 + (("m", 1), None), 24))
    rows.append(((("a", 1),) * 1001, 1000))
    rows.append(((("a", 1), ("b", SIXTY)) * 500 + (None,), 1000))
    return rows


WRONG_CAPACITIES = [
    0, 9, 10, -1, -8, SIXTY, -SIXTY, True, False, None, "", "1", "8", b"1", b"\x01", (), (1,), [], [1], {}, {1: 1},
    {1}, object(), int, len, range(3), nested(11),
]

# None of these is an integer from 0 on.
WRONG_NUMBERS = [number for number in WRONG_COUNTS if repr(number) != "0"] + [-2, [0], (0,), "0", {0: 0}]

CAPACITIES = [1, 2, 3, 4, 5, 6, 7, 8]

# None of these is a Summary.
NO_SUMMARIES = NO_TUPLES + [
    (), (("a", 1),), (1, (("a", 1),)), (1, ()), "Summary(1, '-')", b"\x01\x00", Summary, [Summary(1)], (Summary(1),),
    {"a": Summary(1)}, Summary(1).play, nested(12),
]


def spoiled_plans():
    """Return pairs: a tuple that is not a merge plan, and the least index up to which it is not."""
    rows = []
    wrong_orders = [thing for thing in NO_TUPLES] + [order for order, _ in spoiled_orders()[::9]]
    wrong_orders += [(("a", 1), 1), ("a", 1), (((("a", 1),),),)] + [((name, 1),) for name in WRONG_NAMES]
    wrong_orders += [(("a", times),) for times in WRONG_COUNTS]
    for plan in [(), ((),), ((("a", 1),), (("b", 2), ("a", SIXTY))), ((), counts_of(12), ()), (counts_of(4),) * 5]:
        for at in range(len(plan) + 1):
            for wrong in wrong_orders[at::len(plan) + 1]:
                rows.append((plan[:at] + (wrong,) + plan[at:], at))
                rows.append((plan[:at] + (wrong,) + plan[at + 1:], at))
    rows.append((tuple(((name, 1),) for name in names_of(13)), 12))
    rows.append(((counts_of(12), (("m", 1),), None), 1))
    rows.append(((counts_of(6), (), names_as_order(13)[6:]), 2))
    rows.append(((names_as_order(12)[:11], names_as_order(13)[11:]), 1))
    rows.append((((("a", 1),) * 1000, (("a", 1),) * 1001), 1))
    rows.append((((),) * 401, 400))
    rows.append((((("a", 1),),) * 400 + (None,), 400))
    rows.append((((("a", 1),),) * 399 + (None,), 399))
    return rows


def names_as_order(many):
    """Return an order in which so many different names arrive once each."""
    return tuple((name, 1) for name in names_of(many))
