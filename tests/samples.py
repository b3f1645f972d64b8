"""Values that several tests share."""

LETTERS = "abcdefghijklmnopqrstuvwxyz"
SIXTY = 10 ** 60 - 1


def nested(levels):
    """Return lists, tuples and dictionaries, so many levels deep."""
    thing = ()
    for level in range(levels - 1):
        thing = ([thing], (thing,), {"a": thing})[level % 3]
    return thing


# None of these is a tuple.
NO_TUPLES = [
    None, True, False, 0, 1, -1, SIXTY, "", "-", "a", "a:1", b"", b"a", [], [()], [("a", 1)], ["a", 1],
    {}, {"a": 1}, {("a", 1): 1}, set(), {("a", 1)}, frozenset(), object(), range(2), iter(()), len, tuple,
    ValueError("a"), [nested(11)], {"a": nested(11)}, lambda: (),
]

GOOD_NAMES = ["a", "z", "az", "abcdefgh", "zzzzzzzz"]

WRONG_NAMES = [
    "", "abcdefghi", "zzzzzzzzz", "A", "aB", "Abc", "a1", "1", "a ", " a", " ", "a\n", "\n", "a-b", "a_b",
    "a*2", "a:1", "-", "`", "{", "@", "[", "\xe9", "\xaa", "\xdf", "\u0430", "a\u0301", "\ud800",
    None, True, False, 0, 1, b"a", b"", ("a",), (), ["a"], [], {"a": 1}, {}, {"a"}, object(), str, nested(11),
]

# None of these is an integer from 1 on.
WRONG_COUNTS = [
    0, -1, -SIXTY, True, False, None, "1", "", b"1", (1,), (), [1], [], {1: 1}, {}, {1}, object(), int, nested(11),
]

# None of these is a pair of a name and an integer from 1 on.
WRONG_PAIRS = (
    NO_TUPLES
    + [(), ("a",), (1,), ("a", 1, 1), ("a", 1, None), (("a", 1),), (("a", 1), ("b", 1))]
    + ["a1", (1, "a"), ("a", "a"), (1, 1)]
    + [(name, 1) for name in WRONG_NAMES]
    + [("a", count) for count in WRONG_COUNTS]
    + [("", 0), ("A", True), nested(12)]
)


def names_of(many):
    """Return so many different names, ascending, of one to eight letters."""
    return [LETTERS[at] * (1 + at % 8) for at in range(many)]


def counts_of(many):
    """Return counts with so many pairs, small and large."""
    return tuple((name, (1, 7, SIXTY, 10 ** 59)[at % 4] + at * (at % 4 < 2)) for at, name in enumerate(names_of(many)))
