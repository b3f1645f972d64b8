"""Claims and certificates: what the document says of each form, true ones, and values put otherwise."""

import collections

from tallyplans.certificates import (
    certify_count, certify_end, certify_late, certify_merge, certify_reductions, certify_truth,
)
from tallyplans.counts import is_counts, total
from tallyplans.late import late_change
from tallyplans.merging import is_plan, plan_arrivals, plan_result
from tallyplans.names import is_name
from tallyplans.orders import arrivals_of, is_order
from tallyplans.summaries import Summary
from tests.collectors import random_summary
from tests.reference import column_sum, loss_dict, random_columns, random_counts, random_order
from tests.samples import names_of


def is_int(thing, least=None):
    return isinstance(thing, int) and not isinstance(thing, bool) and (least is None or thing >= least)


def is_held(thing, capacity):
    """Return whether any value is the counts of a summary of this capacity."""
    return is_counts(thing) and len(thing) <= capacity


def order_fits(order, arrivals):
    return is_order(order) and arrivals_of(order) == arrivals


def shape_of(thing):
    """Return the classes of the elements of a tuple, None for anything else."""
    return tuple(part.__class__ for part in thing) if isinstance(thing, tuple) else None


def possible_said(certificate, capacity, start, arrivals, end):
    if not is_held(start, capacity) or not is_counts(arrivals) or not is_held(end, capacity):
        return False
    return order_fits(certificate, arrivals) and Summary(capacity, start).play(certificate).counts == end


def impossible_said(certificate, capacity, start, arrivals, end):
    if not is_held(start, capacity) or not is_counts(arrivals) or not is_held(end, capacity):
        return False
    held, lost = dict(start), collections.defaultdict(int, loss_dict(start, arrivals, end))
    units = sum(lost.values())
    depth = units // (capacity + 1) if units % (capacity + 1) == 0 else None
    if shape_of(certificate) == (str, str) and is_name(certificate[1]):
        word, name = certificate
        if word == "gain":
            return lost[name] < 0
        if word not in ("few", "many") or depth is None or depth < 0:
            return False
        return lost[name] < min(held.get(name, 0), depth) if word == "few" else lost[name] > depth
    if shape_of(certificate) == (str, int):
        return certificate[0] == "sum" and certificate[1] == units and depth is None
    if shape_of(certificate) == (str, int, int) and certificate[0] == "columns" and depth is not None:
        first, found = certificate[1:]
        return 1 <= first <= depth and found == column_sum(held, lost, depth, first) > first * (capacity + 1)
    return False


def reductions_said(certificate, capacity, arrivals, least, greatest):
    if not is_counts(arrivals) or not is_int(least, 0) or not is_int(greatest, 0):
        return False
    if not isinstance(certificate, tuple) or len(certificate) != 2:
        return False
    if not all(order_fits(order, arrivals) for order in certificate):
        return False
    if [Summary(capacity).reductions(order) for order in certificate] != [least, greatest]:
        return False
    counts = sorted((count for _, count in arrivals), reverse=True) + [0] * 9
    if least != max(counts[capacity], -(-sum(counts[capacity:]) // (capacity + 1))):
        return False
    return sum(min(count, greatest + 1) for count in counts) < (greatest + 1) * (capacity + 1)


def ends_said(certificate, capacity, arrivals, name, count):
    if not is_counts(arrivals) or not is_name(name) or not is_int(count, 0):
        return False
    return order_fits(certificate, arrivals) and Summary(capacity).play(certificate).tally(name) == count


def truth_said(certificate, capacity, end, size, counts):
    if not is_held(end, capacity) or not is_int(size, 0) or not is_counts(counts) or total(counts) != size:
        return False
    return possible_said(certificate, capacity, (), counts, end)


def mergeable_said(certificate, capacity, arrivals, end):
    if not is_counts(arrivals) or not is_held(end, capacity) or not is_plan(certificate):
        return False
    return plan_arrivals(certificate) == arrivals and plan_result(capacity, certificate).counts == end


def not_mergeable_said(certificate, capacity, arrivals, end):
    if not is_counts(arrivals) or not is_held(end, capacity):
        return False
    lost = loss_dict((), arrivals, end)
    if shape_of(certificate) == (str, str):
        return certificate[0] == "gain" and lost.get(certificate[1], 0) < 0
    if shape_of(certificate) != (str, int, int) or certificate[0] != "range" or min([0, *lost.values()]) < 0:
        return False
    units = sum(lost.values())
    least = max([0, -(-units // (2 * capacity)), *lost.values()])
    return certificate[1:] == (least, units // (capacity + 1)) and certificate[1] > certificate[2]


def late_said(certificate, capacity, start, order, index, name, change):
    if certificate is not None or not is_held(start, capacity) or not is_order(order) or not is_name(name):
        return False
    if not is_int(index, 0) or index > len(order) or shape_of(change) not in ((str,), (str, str)):
        return False
    return change == late_change(Summary(capacity, start), order, index, name)


SAID = {
    "possible": (3, possible_said), "impossible": (3, impossible_said), "reductions": (3, reductions_said),
    "ends": (3, ends_said), "true counts": (3, truth_said), "mergeable": (2, mergeable_said),
    "not mergeable": (2, not_mergeable_said), "late": (5, late_said),
}


def is_said(claim, certificate):
    """Return whether everything that the document says about the form of the claim holds."""
    if not isinstance(claim, tuple) or len(claim) < 2 or not isinstance(claim[0], str) or claim[0] not in SAID:
        return False
    parts, said = SAID[claim[0]]
    if len(claim) != parts + 2 or not is_int(claim[1], 1) or claim[1] > 8:
        return False
    return said(certificate, *claim[1:])


def places_in(thing, depth=5):
    """Return the paths of all places of nested tuples, the whole among them."""
    paths = [()]
    if isinstance(thing, tuple) and depth:
        for at, part in enumerate(thing):
            paths += [(at, *path) for path in places_in(part, depth - 1)]
    return paths


def part_at(thing, path):
    """Return what is at a place of nested tuples."""
    for at in path:
        thing = thing[at]
    return thing


def put(thing, path, part):
    """Return the nested tuples with another part at a place."""
    if not path:
        return part
    at = path[0]
    return thing[:at] + (put(thing[at], path[1:], part),) + thing[at + 1:]


def other_values(thing):
    """Return values that may stand otherwise in the place of one."""
    found = [None, True, False, 0, 1, "", "a", "zeta", (), [], {}]
    if is_int(thing):
        found += [thing + 1, thing - 1, -thing, thing * 2, str(thing), (thing,), bool(thing)]
    if isinstance(thing, str):
        found += [thing.upper(), thing + "a", thing[:-1], thing.encode(), (thing,), [thing], " " + thing]
        found += ["gain", "few", "many", "sum", "columns", "range", "more", "less", "possible", "impossible", "late"]
    if isinstance(thing, tuple):
        found += [list(thing), thing[1:], thing[:-1], thing + (None,), thing + thing[-1:], thing[::-1], (thing,)]
        found += [thing + (("zzz", 1),), (("zzz", 1),) + thing, dict(enumerate(thing)), thing[1:] + thing[:1]]
    return found


def varied(thing):
    """Return values like nested tuples, with one place put otherwise."""
    return [put(thing, path, part) for path in places_in(thing) for part in other_values(part_at(thing, path))]


def varied_twice(source, thing, many):
    """Return some values like nested tuples with two places put otherwise."""
    rows = []
    for _ in range(many):
        once = source.choice(varied(thing))
        rows.append(source.choice(varied(once)))
    return rows


def random_ends(source, capacity, most, names=None):
    """Return start, arrivals and end: some that occur and some that do not."""
    case = random_columns(source, capacity, most) if source.random() < 0.3 else None
    if case is not None:
        return Summary(capacity, case[0]), case[1], Summary(capacity, case[2])
    names = names or names_of(12)
    start = random_summary(source, capacity, most)
    order = random_order(source, names, source.choice([1, 4, 12]), most)
    arrivals, end = arrivals_of(order), start.play(order)
    if source.random() < 0.5:
        counts = dict(end.counts)
        name = source.choice(sorted(counts) or ["q"])
        counts[name] = counts.get(name, 0) + source.choice([1, -1, capacity + 1, -capacity - 1])
        counts = tuple((item, count) for item, count in sorted(counts.items()) if count > 0)
        end = Summary(capacity, counts[:capacity])
    return start, arrivals, end


def random_claims(source, capacity, most):
    """Return pairs of a true claim of each form and its certificate, as far as they come about."""
    start, arrivals, end = random_ends(source, capacity, most)
    order = random_order(source, names_of(12), source.choice([0, 3, 12]), most)
    counts, last = arrivals_of(order), Summary(capacity).play(order)
    name = source.choice(names_of(13))
    pairs = [
        certify_end(start, arrivals, end), certify_reductions(capacity, arrivals),
        certify_count(capacity, counts, name, last.tally(name)), certify_truth(last, total(counts), counts),
        certify_merge(capacity, counts, last), certify_merge(capacity, arrivals, end),
        certify_merge(capacity, random_counts(source, names_of(12)[:source.randint(1, 4)], most), Summary(capacity)),
        certify_late(start, order, source.randint(0, len(order)), name),
    ]
    return [pair for pair in pairs if pair is not None]
