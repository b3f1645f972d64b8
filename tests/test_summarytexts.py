"""Promises 16 to 19: texts and bytes of summaries, and texts of counts."""

import itertools
import re

from tallyplans.counts import is_counts
from tallyplans.errors import InvalidCapacity, InvalidCounts, InvalidText, NotASummary
from tallyplans.summaries import Summary
from tallyplans.summarytexts import format_counts, pack_summary, parse_counts, parse_summary, unpack_summary
from tests.helpers import TallyTest
from tests.samples import (
    CAPACITIES, GOOD_COUNTS, NO_SUMMARIES, NO_TUPLES, SIXTY, WRONG_CAPACITIES, counts_of, spoiled_counts,
)

GOOD_TEXTS = [
    "-", "a:1", "z:9", "abcdefgh:10", "a:2 b:1", "a:1 aa:1 b:100", "a:19 ab:2 abcdefgh:3 z:4", "a:" + str(SIXTY),
    "a:1 b:1 c:1 d:1 e:1 f:1 g:1 h:1", "a:1 b:1 c:1 d:1 e:1 f:1 g:1 h:1 i:1",
    "a:1 b:2 c:3 d:4 e:5 f:6 g:7 h:8 i:9 j:10 k:11 l:12",
]

# None of these is the text of counts.
WRONG_TEXTS = [
    "", " ", "--", "- -", "- a:1", "a:1 -", "-a:1", "a:-1", "a:1 b:-1", " a:1", "a:1 ", "a:1  b:1", "a:1\tb:1",
    "a:1\n", "\na:1", "a:1\nb:1", "a:1,b:1", "a", "a:", ":", ":1", "a::1", "a:1:2", "a:1: b:1", "a:b:1", "a:0", "a:00",
    "a:01", "a:001 b:1", "a:+1", "a: 1", "a :1", "a:1_0", "a:1.0", "a:x", "a*2", "a=1", "1:a", "1:1", "A:1", "Ab:1",
    "a1:1", "a-b:1", "abcdefghi:1", "a:1 a:1", "a:1 a:2", "b:1 a:1", "a:1 c:1 b:1", "aa:1 a:1", "a:1 B:1",
    "a:0" + "9" * 59, "a:\u0661", "a:\xb2", "\xe9:1", "\xaa:1", "a:1 b:1 c:1 d:1 e:1 f:1 g:1 h:1 i:1 j:1 k:1 l:1 m:1",
]

PAIR = "[a-z]{1,8}:[1-9][0-9]*"


def is_text_of_counts(text, most=12):
    """Return whether some counts of at most so many pairs have the text, by the words of the document."""
    if not re.fullmatch(f"-|{PAIR}( {PAIR})*", text):
        return False
    names = [] if text == "-" else [word.split(":")[0] for word in text.split(" ")]
    return len(names) <= most and all(one < other for one, other in zip(names, names[1:]))


def changed_texts(text):
    """Return texts that differ a little."""
    rows = []
    for at in range(len(text) + 1):
        rows += [text[:at] + text[at + 1:], text[:at] + text[at:at + 2][::-1] + text[at + 2:]]
        for sign in " :-*+.,0129azAZ_\n`{/;":
            rows += [text[:at] + sign + text[at:], text[:at] + sign + text[at + 1:]]
    words = text.split(" ")
    for at, word in enumerate(words):
        for other in ("", "-", word, word.upper(), "a:1", "zz:1", "a:02", "a:0", "a", ":2"):
            rows += [" ".join(words[:at] + [other] + words[at:]), " ".join(words[:at] + [other] + words[at + 1:])]
    return rows


class TextsTest(TallyTest):
    def check_text(self, text):
        """Check that the text is accepted exactly if it is the text of what is returned."""
        if is_text_of_counts(text):
            counts = parse_counts(text)
            self.assertIs(is_counts(counts), True)
            self.check_value(format_counts(counts), text)
        else:
            self.check_raises(InvalidText, {"text": text}, parse_counts, text)
        for capacity in (1, 2, 8):
            if is_text_of_counts(text, capacity):
                summary = parse_summary(capacity, text)
                self.check_value([summary.capacity, str(summary)], [capacity, text])
            else:
                self.check_raises(InvalidText, {"text": text}, parse_summary, capacity, text)

    def test_examples(self):
        found = [parse_summary(2, "a:2 b:1").counts, format_counts((("a", 2),)), parse_counts("-")]
        self.check_value(found, [(("a", 2), ("b", 1)), "a:2", ()])
        self.check_raises(InvalidText, {"text": "b:2 a:1"}, parse_summary, 2, "b:2 a:1")

    def test_format_and_parse(self):
        for counts in GOOD_COUNTS:
            text = " ".join(f"{name}:{count}" for name, count in counts) or "-"
            self.check_value([format_counts(counts), format_counts(counts=counts)], [text, text])
            self.check_value([parse_counts(text), parse_counts(text=text)], [counts, counts])
            for capacity in CAPACITIES:
                if len(counts) <= capacity:
                    summary = Summary(capacity, counts)
                    self.check_value(str(summary), text)
                    self.assertEqual(parse_summary(capacity, text), summary)
                    self.assertEqual(parse_summary(text=text, capacity=capacity), summary)
                else:
                    self.check_raises(InvalidText, {"text": text}, parse_summary, capacity, text)

    def test_values_that_are_not_counts(self):
        for thing in NO_TUPLES:
            self.check_raises(InvalidCounts, {"index": None}, format_counts, thing)
        for thing, index in spoiled_counts():
            self.check_raises(InvalidCounts, {"index": index}, format_counts, thing)
            self.check_raises(InvalidCounts, {"index": index}, format_counts, counts=thing)

    def test_good_texts(self):
        for text in GOOD_TEXTS:
            self.assertTrue(is_text_of_counts(text))
            self.check_text(text)

    def test_rejected_texts(self):
        for text in WRONG_TEXTS:
            self.assertFalse(is_text_of_counts(text))
            self.check_text(text)
            self.check_raises(InvalidText, {"text": text}, parse_counts, text=text)
            self.check_raises(InvalidText, {"text": text}, parse_summary, text=text, capacity=8)

    def test_all_short_texts(self):
        for many in range(6):
            for letters in itertools.product("ab:01 -", repeat=many):
                self.check_text("".join(letters))

    def test_changed_texts(self):
        for text in GOOD_TEXTS:
            for other in changed_texts(text):
                self.check_text(other)

    def test_no_text(self):
        for thing in [row for row in NO_TUPLES if not isinstance(row, str)] + [(), ("a:1",), (("a", 1),), Summary(1)]:
            self.check_raises(InvalidText, {"text": thing}, parse_counts, thing)
            self.check_raises(InvalidText, {"text": thing}, parse_summary, 2, thing)

    def test_wrong_capacity_comes_first(self):
        for capacity in WRONG_CAPACITIES:
            for text in ["-", "a:1", "", "a:0", None, 1, (), []]:
                self.check_raises(InvalidCapacity, {"capacity": capacity}, parse_summary, capacity, text)
                self.check_raises(InvalidCapacity, {"capacity": capacity}, parse_summary, text=text, capacity=capacity)

    def test_numbers_around_a_block_of_digits(self):
        for digits in (59, 60, 61, 120, 121):
            for number in (10 ** digits - 1, 10 ** digits, 10 ** digits + 7):
                counts = (("a", number), ("b", number + 1))
                self.check_value(format_counts(counts), f"a:{number} b:{number + 1}")
                self.check_value(parse_counts(f"a:{number} b:{number + 1}"), counts)

    def test_returned_values_of_any_size(self):
        summary = Summary(2, (("a", 1), ("b", SIXTY)))
        for _ in range(20000):
            summary = summary.merged(summary)
        text = str(summary)
        self.assertEqual(parse_summary(2, text), summary)
        self.assertEqual(parse_counts(text), summary.counts)
        self.assertEqual(format_counts(summary.counts), text)


def packed_by_words(capacity, counts):
    """Return the bytes that the interface describes."""
    data = [capacity, len(counts)]
    for name, count in counts:
        digits = f"{count:x}"
        digits = digits.zfill(len(digits) + len(digits) % 2)
        data += [len(name)] + [ord(letter) for letter in name]
        data += [len(digits) // 2] + [int(digits[at:at + 2], 16) for at in range(0, len(digits), 2)]
    return bytes(data)


SIZES = [1, 2, 127, 128, 255, 256, 257, 65535, 65536, 256 ** 24 - 1, 256 ** 24, SIXTY, 10 ** 80, 256 ** 200 - 1]

PACKED = [
    (1, ()), (8, ()), (1, (("a", 1),)), (2, (("a", 1),)), (2, (("ab", 258),)), (3, (("a", 255), ("b", 256), ("c", 1))),
    (2, (("abcdefgh", 256 ** 25), ("z", SIXTY))), (8, counts_of(8)), (8, tuple((name, 1) for name in "abcdefgh")),
] + [(2, (("a", size), ("b", size + 1))) for size in SIZES[:-1]] + [(1, (("a", SIZES[-1]),))]


def unpacked_by_words(data):
    """Return capacity and counts that are packed to the bytes, None if there are none."""
    try:
        parts = list(data)
        capacity, many = parts[:2]
        at, pairs = 2, []
        for _ in range(many):
            length = parts[at]
            name = "".join(chr(code) for code in parts[at + 1:at + 1 + length])
            at += 1 + length
            size = parts[at]
            pairs.append((name, int("0" + "".join(f"{code:02x}" for code in parts[at + 1:at + 1 + size]), 16)))
            at += 1 + size
    except (IndexError, ValueError):
        return None
    counts = tuple(pairs)
    if not 1 <= capacity <= 8 or len(counts) > capacity or not is_counts(counts):
        return None
    return (capacity, counts) if packed_by_words(capacity, counts) == data else None


def changed_bytes(data):
    """Return bytes that differ a little."""
    rows = [b"", data + data, data + b"\x00", data + b"\x01a\x01\x01", b"\x00" + data, b"\x01" + data, data[::-1]]
    for at in range(len(data) + 1):
        rows += [data[:at], data[at:], data[:at] + data[at + 1:], data[:at] + data[at:at + 1] + data[at:]]
        rows += [data[:at] + data[at:at + 2][::-1] + data[at + 2:]]
        for code in (0, 1, 2, 3, 8, 9, 64, 65, 90, 91, 96, 97, 98, 122, 123, 128, 225, 254, 255):
            rows += [data[:at] + bytes([code]) + data[at:], data[:at] + bytes([code]) + data[at + 1:]]
    return rows


class PackedTest(TallyTest):
    def check_data(self, data):
        """Check that the bytes are accepted exactly if a summary is packed to them."""
        expected = unpacked_by_words(data)
        if expected is None:
            self.check_raises(InvalidText, {"text": data}, unpack_summary, data)
        else:
            summary = unpack_summary(data)
            self.check_value([summary.capacity, summary.counts], list(expected))
            self.check_value(pack_summary(summary), data)

    def test_example(self):
        data = pack_summary(Summary(2, (("ab", 258),)))
        self.check_value([data, unpack_summary(data).counts], [b"\x02\x01\x02ab\x02\x01\x02", (("ab", 258),)])

    def test_pack_and_unpack(self):
        for capacity, counts in PACKED:
            summary = Summary(capacity, counts)
            data = pack_summary(summary)
            self.check_value([data, pack_summary(summary=summary)], [packed_by_words(capacity, counts)] * 2)
            self.check_value([unpack_summary(data), unpack_summary(data=data)], [summary, summary])
            self.assertIs(unpack_summary(data) == summary, True)
            self.check_data(data)

    def test_known_bytes(self):
        self.check_value(pack_summary(Summary(8)), b"\x08\x00")
        self.check_value(pack_summary(Summary(1, (("z", 255),))), b"\x01\x01\x01z\x01\xff")
        self.check_value(pack_summary(Summary(1, (("z", 256),))), b"\x01\x01\x01z\x02\x01\x00")
        self.check_value(pack_summary(Summary(1, (("z", 256 ** 30),))), b"\x01\x01\x01z\x1f\x01" + b"\x00" * 30)

    def test_same_bytes_only_if_equal(self):
        rows = [(capacity, counts) for capacity in CAPACITIES for counts in GOOD_COUNTS if len(counts) <= capacity]
        rows = sorted(set(rows + PACKED))
        self.assertEqual(len({pack_summary(Summary(*row)) for row in rows}), len(rows))

    def test_changed_bytes(self):
        for capacity, counts in PACKED[:12]:
            for data in changed_bytes(packed_by_words(capacity, counts)):
                self.check_data(data)

    def test_all_short_bytes(self):
        for many in range(7):
            for codes in itertools.product((0, 1, 2, 97), repeat=many):
                self.check_data(bytes(codes))

    def test_rejected_bytes(self):
        rows = [
            b"", b"\x01", b"\x00\x00", b"\x09\x00", b"\x01\x02", b"1\x00", b"\x01\x00\x00", b"\x01\x01",
            b"\x01\x01\x01", b"\x01\x01\x01a", b"\x01\x01\x01a\x01", b"\x01\x01\x01a\x00", b"\x01\x01\x01a\x01\x00",
            b"\x01\x01\x01a\x02\x00\x01", b"\x01\x01\x01a\x02\x01", b"\x01\x01\x00\x01\x01", b"\x01\x01\x01A\x01\x01",
            b"\x01\x01\x01\xe9\x01\x01", b"\x01\x01\x021a\x01\x01", b"\x01\x01\x09abcdefghi\x01\x01",
            b"\x01\x01\xffa\x01\x01", b"\x01\x01\x01a\xff\x01", b"\x01\x02\x01a\x01\x01\x01b\x01\x01",
            b"\x02\x02\x01b\x01\x01\x01a\x01\x01", b"\x02\x02\x01a\x01\x01\x01a\x01\x01",
            b"\x02\x02\x01a\x01\x01\x01a\x01\x02", b"\x02\x02\x01a\x01\x01", b"\x02\x01\x01a\x01\x01\x01b\x01\x01",
            b"\x02\x00\x01a\x01\x01", b"\x02\x01\x01a\x01\x01\x00", b"\x02\x01\x01a\x00\x01",
            b"\x08\x01\x02a\x00\x01\x01", b"-", b"a:1", b"Summary(1, '-')",
        ]
        for data in rows:
            self.assertIsNone(unpacked_by_words(data))
            self.check_data(data)
            self.check_raises(InvalidText, {"text": data}, unpack_summary, data=data)

    def test_no_bytes_object(self):
        data = pack_summary(Summary(1))
        things = NO_SUMMARIES + [list(data), tuple(data), bytearray(data), memoryview(data), data.hex(), "\x01\x00"]
        for thing in things + [Summary(1)]:
            if not isinstance(thing, bytes) or thing != data:
                self.check_raises(InvalidText, {"text": thing}, unpack_summary, thing)

    def test_pack_of_no_summary(self):
        for thing in NO_SUMMARIES:
            self.check_raises(NotASummary, {"value": thing}, pack_summary, thing)
            self.check_raises(NotASummary, {"value": thing}, pack_summary, summary=thing)
