"""Texts and bytes of summaries, and texts of counts."""

from tallyplans.counts import check_counts, counts_text, good_pairs, is_counts
from tallyplans.digits import parse_number
from tallyplans.errors import InvalidText
from tallyplans.summaries import Summary, check_capacity, check_summary, is_capacity


def format_counts(counts):
    """Return the text of the counts."""
    check_counts(counts)
    return counts_text(counts)


def read_pair(word):
    """Return the name and the count that a word shows, the count None if it is miswritten."""
    name, _, digits = word.partition(":")
    return (name, parse_number(digits))


def read_counts(thing):
    """Return the counts whose text is any value, None if there are none."""
    if not isinstance(thing, str):
        return None
    if thing == "-":
        return ()
    pairs = tuple([read_pair(word) for word in thing.split(" ")])
    return pairs if is_counts(pairs) else None


def parse_counts(text):
    """Return the counts whose text is the text."""
    counts = read_counts(text)
    if counts is None:
        raise InvalidText(text)
    return counts


def parse_summary(capacity, text):
    """Return the summary of this capacity whose text is the text."""
    check_capacity(capacity)
    counts = read_counts(text)
    if counts is None or len(counts) > capacity:
        raise InvalidText(text)
    return Summary(capacity, counts)


def pack_pair(name, count):
    """Return the bytes of a counter."""
    size = (count.bit_length() + 7) // 8
    return bytes([len(name)]) + name.encode("ascii") + bytes([size]) + count.to_bytes(size, "big")


def pack_summary(summary):
    """Return the bytes of the summary."""
    check_summary(summary)
    pairs = [pack_pair(name, count) for name, count in summary.counts]
    return bytes([summary.capacity, len(summary.counts)]) + b"".join(pairs)


def sized_part(data, at):
    """Return the bytes behind a place that tells how many they are, None if some are missing."""
    if at >= len(data):
        return None
    part = data[at + 1:at + 1 + data[at]]
    return part if len(part) == data[at] else None


def unpack_name(part):
    """Return the text of letters that is packed to the bytes, None if there is none."""
    # Bytes are letters for isalpha only if they are ASCII.
    if part is None or not part.isalpha():
        return None
    return part.decode("ascii")


def unpack_count(part):
    """Return the count that is packed to the bytes, None if there is none."""
    if part is None or part.startswith(b"\x00"):
        return None
    return int.from_bytes(part, "big")


def unpack_pairs(data):
    """Return the pairs that are packed to the bytes behind the first two, None if there are none."""
    pairs = []
    at = 2
    while at < len(data):
        name_part = sized_part(data, at)
        name = unpack_name(name_part)
        if name is None:
            return None
        at += 1 + len(name_part)
        count_part = sized_part(data, at)
        count = unpack_count(count_part)
        if count is None:
            return None
        at += 1 + len(count_part)
        pairs.append((name, count))
    return tuple(pairs)


def unpack_summary(data):
    """Return the summary that is packed to the bytes."""
    if not isinstance(data, bytes) or len(data) < 2 or not is_capacity(data[0]):
        raise InvalidText(data)
    pairs = unpack_pairs(data)
    if pairs is None or len(pairs) != data[1] or good_pairs(pairs, data[0]) < len(pairs):
        raise InvalidText(data)
    return Summary(data[0], pairs)
