"""Promises 76 to 78 and 91 to 93: the console."""

import itertools

from tallyplans.certificates import certify_end
from tallyplans.checker import accepts
from tallyplans.collecting import Collector
from tallyplans.console import Console
from tallyplans.errors import (
    InvalidCapacity, InvalidIndex, InvalidLine, InvalidName, InvalidOrder, InvalidSize, InvalidText, InvalidTimes,
    NothingToUndo, SizeError, StateError, TallyError, TooManyActions, TooManyNames,
)
from tallyplans.late import late_change
from tallyplans.orders import arrivals_of, format_order, parse_order
from tallyplans.outcomes import find_order, obstacle
from tallyplans.ranges import count_range, reduction_range
from tallyplans.summaries import Summary
from tallyplans.summarytexts import format_counts, pack_summary, parse_counts, parse_summary, unpack_summary
from tallyplans.truth import true_range
from tests.collectors import random_actions, random_summary
from tests.helpers import TallyTest
from tests.reference import all_outcomes, random_order, seeded, small_counts
from tests.samples import CAPACITIES, NO_TUPLES, SIXTY, WRONG_CAPACITIES, names_of

QUESTIONS = ["current", "arrived", "reductions", "range a", "order -", "check -", "true a 99", "late 0 a"]


def line_of(action):
    """Return the line of an action, None if no line does it."""
    word, *parts = action
    if word == "merge":
        return "merge " + str(parts[0])
    return None if word == "start" else " ".join([word, *map(str, parts)])


def text_of(words):
    return " ".join(str(word) for word in words)


def answer_like(collector, line):
    """Return what the functions of the library say to a valid line, as a text, for a collector."""
    command, _, rest = line.partition(" ")
    words = rest.split(" ")
    empty = Summary(collector.capacity)
    if command == "arrive":
        return str(collector.arrive(words[0], int((words + ["1"])[1])))
    if command == "insert":
        return str(collector.insert_at(int(words[0]), words[1], int(words[2])))
    if command == "remove":
        return str(collector.remove_at(int(rest)))
    if command == "late":
        runs = tuple(entry for entry in collector.entries() if not isinstance(entry, Summary))
        return text_of(late_change(collector.start(), runs, int(words[0]), words[1]))
    if command == "true":
        return text_of(true_range(collector.current(), int(words[1]), words[0]))
    if command in ("merge", "order", "check"):
        other = parse_summary(collector.capacity, rest)
        if command == "merge":
            return str(collector.merge(other))
        if command == "check":
            return "accepted" if accepts(*certify_end(empty, collector.arrived(), other)) else "rejected"
        reason = obstacle(empty, collector.arrived(), other)
        if reason is not None:
            return text_of(reason)
        return format_order(find_order(empty, collector.arrived(), other))
    return {
        "undo": lambda: str(collector.undo()),
        "current": lambda: str(collector),
        "arrived": lambda: format_counts(collector.arrived()),
        "reductions": lambda: text_of(reduction_range(collector.capacity, collector.arrived())),
        "range": lambda: text_of(count_range(collector.capacity, collector.arrived(), rest)),
    }[command]()


def outcome(call, *args):
    """Return what a call returns, or the class and the fields of its error."""
    try:
        return call(*args)
    except (TallyError, StateError, SizeError) as error:
        return error.__class__.__name__, vars(error)


class ConsoleTest(TallyTest):
    """What the tests of the console need."""

    def telling(self, console):
        """Return what a console tells of its summary and its entries."""
        return [outcome(console.run, line) for line in QUESTIONS + ["late 9 b", "late 99 b", "true b 0", "range zeta"]]

    def check_line_fails(self, console, error, fields, line):
        before = self.telling(console)
        self.check_raises(error, fields, console.run, line)
        self.check_raises(error, fields, console.run, line=line)
        self.check_value(self.telling(console), before)


class ExamplesTest(ConsoleTest):
    def test_examples(self):
        console = Console(2)
        texts = [console.run("arrive a 4"), console.run("arrive b 4"), console.run("arrive c 2")]
        found = [texts] + [console.run(line) for line in ("arrived", "reductions", "range a", "late 0 d")]
        self.check_value(found, [["a:4", "a:4 b:4", "a:2 b:2"], "a:4 b:4 c:2", "2 2", "2 2", "less"])
        console = Console(2)
        texts = [console.run(line) for line in ("arrive a 2", "merge b:3 c:2", "check a:2", "order a:1")]
        found = [texts, console.run("true b 7"), console.run("undo")]
        self.check_value(found, [["a:2", "b:1", "accepted", "sum 1"], "1 3", "a:2"])
        self.check_raises(InvalidLine, {"line": "arrive a 04"}, Console(2).run, "arrive a 04")

    def test_each_line(self):
        console = Console(2)
        rows = [
            ("current", "-"), ("arrived", "-"), ("reductions", "0 0"), ("range a", "0 0"), ("order -", "-"),
            ("order a:1", "gain a"), ("check -", "accepted"), ("true a 0", "0 0"), ("true a 3", "0 1"),
            ("late 0 a", "more a"), ("arrive a", "a:1"), ("arrive b 3", "a:1 b:3"), ("insert 0 c 2", "b:2 c:1"),
            ("late 1 d", "more b"), ("late 3 d", "less"), ("late 3 c", "more c"), ("merge b:1 d:1", "b:2"),
            ("arrived", "a:1 b:3 c:2"), ("current", "b:2"), ("order b:2 c:1", ""), ("order b:3", "many c"),
            ("order b:2", "sum 4"), ("order a:1 b:2", "many c"),
            ("check b:3", "accepted"), ("true b 5", "2 3"), ("reductions", "1 1"), ("range b", "2 2"),
            ("remove 1", "b:3 c:1"), ("undo", "b:2"), ("undo", "b:2 c:1"), ("undo", "a:1 b:3"), ("undo", "a:1"),
            ("undo", "-"),
        ]
        for line, text in rows:
            if line == "order b:2 c:1":
                # Any such order may be returned.
                order = parse_order(console.run(line))
                self.assertEqual(Summary(2).play(order), Summary(2, (("b", 2), ("c", 1))))
                self.assertEqual(arrivals_of(order), (("a", 1), ("b", 3), ("c", 2)))
                continue
            self.check_value(outcome(console.run, line), text)
        self.check_raises(NothingToUndo, {}, console.run, "undo")


class ActionsTest(ConsoleTest):
    def test_actions_that_can_be_done(self):
        source = seeded(76)
        for capacity in CAPACITIES:
            for most in (1, 5, SIXTY):
                console, collector = Console(capacity=capacity), Collector(capacity)
                for action in random_actions(source, capacity, 60, most):
                    line = line_of(action)
                    if line is None:
                        continue
                    if action[0] == "remove" and action[1] >= len(collector):
                        continue
                    if action[0] == "insert" and action[1] > len(collector):
                        continue
                    expected = str(collector.do(action))
                    self.check_value(console.run(line), expected)
                    self.check_value(console.run(line="current"), expected)
                while collector.history():
                    self.check_value(console.run("undo"), str(collector.undo()))

    def test_times_left_out(self):
        console = Console(1)
        found = [console.run(line) for line in ("arrive ab", "arrive ab", "arrive b 2")]
        self.check_value(found, ["ab:1", "ab:2", "-"])
        self.check_value(console.run("arrived"), "ab:2 b:2")

    def test_actions_that_fail(self):
        console = Console(2)
        console.run("arrive a 2")
        console.run("merge b:3")
        rows = [
            ("arrive A", InvalidName, {"name": "A"}), ("arrive abcdefghi 0", InvalidName, {"name": "abcdefghi"}),
            ("arrive a\n", InvalidName, {"name": "a\n"}), ("arrive a\n1", InvalidName, {"name": "a\n1"}),
            ("arrive 7 7", InvalidName, {"name": "7"}),
            ("arrive a 0", InvalidTimes, {"times": 0}), ("insert 3 A 0", InvalidIndex, {"index": 3}),
            ("insert 2 A 0", InvalidName, {"name": "A"}), ("insert 2 a 0", InvalidTimes, {"times": 0}),
            ("insert 99 a 1", InvalidIndex, {"index": 99}), ("remove 2", InvalidIndex, {"index": 2}),
            (f"remove {SIXTY}", InvalidIndex, {"index": SIXTY}), ("range A", InvalidName, {"name": "A"}),
            ("true A 0", InvalidSize, {"size": 0}), ("true a 6", InvalidSize, {"size": 6}),
            ("true A 5", InvalidName, {"name": "A"}), ("late 2 A", InvalidIndex, {"index": 2}),
            ("late 1 A", InvalidName, {"name": "A"}), ("late 5 a", InvalidIndex, {"index": 5}),
        ]
        for line, error, fields in rows:
            self.check_line_fails(console, error, fields, line)
        self.check_value([console.run("undo"), console.run("undo")], ["a:2", "-"])
        self.check_line_fails(console, NothingToUndo, {}, "undo")
        self.check_line_fails(console, InvalidIndex, {"index": 0}, "remove 0")


class AnswersTest(ConsoleTest):
    def lines(self, source, collector):
        """Return lines that ask, with names and ends that occur and others."""
        rows = ["current", "arrived", "reductions"]
        for name in ["a", "zeta", source.choice(names_of(12))]:
            rows += [f"range {name}", f"late 0 {name}", f"late {len(collector)} {name}", f"late 2 {name}"]
            size = collector.current().kept()
            for falls in (0, 1, 7, 10 ** 30):
                # A number in a line has at most 60 digits.
                rows.append(f"true {name} {min(size + falls * (collector.capacity + 1), SIXTY)}")
            rows.append(f"true {name} {min(size + 1, SIXTY)}")
        runs = tuple(entry for entry in collector.entries() if not isinstance(entry, Summary))
        ends = [Summary(collector.capacity).play(runs), collector.current(), Summary(collector.capacity)]
        ends.append(random_summary(source, collector.capacity, 5))
        return rows + [f"{word} {end}" for word in ("order", "check") for end in ends]

    def test_like_the_library(self):
        source = seeded(77)
        kinds = set()
        for capacity in CAPACITIES:
            for most in (2, 6, SIXTY):
                console, collector = Console(capacity), Collector(capacity)
                for action in random_actions(source, capacity, 25, most):
                    line = line_of(action) or "undo"
                    self.check_value(outcome(console.run, line), outcome(answer_like, collector, line))
                    for line in source.sample(self.lines(source, collector), 12):
                        found = outcome(console.run, line)
                        self.check_value(found, outcome(answer_like, collector, line))
                        self.check_value(outcome(console.run, line), found)
                        kinds.add((line.split(" ")[0], isinstance(found, str)))
        self.assertEqual({word for word, good in kinds if good}, {
            "current", "arrived", "reductions", "range", "late", "true", "order", "check",
        })
        self.assertTrue({("late", False), ("true", False)} <= kinds)

    def test_all_ends_of_small_arrivals(self):
        words = set()
        for arrivals in small_counts("abc", 2):
            console = Console(2)
            for name, count in arrivals:
                console.run(f"arrive {name} {count}")
            found = all_outcomes(2, (), arrivals)
            for end in small_counts("abc", 2, 2):
                text = console.run("order " + format_counts(end))
                if end in found:
                    order = parse_order(text)
                    self.assertEqual((arrivals_of(order), Summary(2).play(order).counts), (arrivals, end))
                    words.add("order")
                else:
                    expected = obstacle(Summary(2), arrivals, Summary(2, end))
                    self.check_value(text, text_of(expected))
                    words.add(expected[0])
                self.check_value(console.run("check " + format_counts(end)), "accepted")
        self.assertEqual(words, {"order", "gain", "sum", "many"})

    def test_large_numbers(self):
        console, collector = Console(3), Collector(3)
        for name, times in (("a", SIXTY), ("b", SIXTY), ("c", 10 ** 59), ("d", 7), ("a", SIXTY), ("e", SIXTY)):
            self.check_value(console.run(f"arrive {name} {times}"), str(collector.arrive(name, times)))
        for line in ("arrived", "reductions", "range a", "range d", "order -", "check a:1", "late 3 f", "current"):
            self.check_value(console.run(line), answer_like(collector, line))
        # The counts of a line are not limited to 60 digits.
        long = "1" * 300
        line = f"merge x:{long} y:{long}"
        self.check_value(console.run(line), answer_like(collector, line))

    def test_late_counts_runs_only(self):
        console = Console(1)
        for line in ("arrive a 2", "merge b:1", "arrive c 1", "merge d:5"):
            console.run(line)
        for index in range(3):
            expected = late_change(Summary(1), (("a", 2), ("c", 1)), index, "b")
            self.check_value(console.run(f"late {index} b"), text_of(expected))
        self.check_line_fails(console, InvalidIndex, {"index": 3}, "late 3 b")


class LinesTest(ConsoleTest):
    WRONG_LINES = [
        "", " ", "  ", "\n", "jump", "Arrive a", "ARRIVE a", "arrive", "arrive ", "arrive  a", " arrive a", "arrive a ",
        "arrive a  1", "arrive a 1 ", "arrive a 1 1", "arrive a b", "arrive a 01", "arrive a 00", "arrive a +1",
        "arrive a -1", "arrive a 1.0", "arrive a 1e3", "arrive a 1_0", "arrive a " + "1" * 61, "arrive a 0x1",
        "arrive\na", "arrive a 1\n", "arrive a \n", "insert", "insert 0", "insert 0 a", "insert 0 a 1 1",
        "insert a 0 1", "insert 00 a 1", "insert -1 a 1", "insert 0 a", "insert 0  1", "insert  a 1", "insert 0 a ",
        "remove", "remove ", "remove 0 0", "remove a", "remove -0", "remove 00", "remove 0 ", "remove  0",
        "undo ", "undo 1", " undo", "undo\n", "current ", "current a", "currents", "arrived a", "arrived ",
        "reductions 1", "reductions ", "range", "range ", "range a b", "range  a", "range a ", "true", "true a",
        "true a 1 1", "true 1 a", "true a 01", "true a ", "true  1", "late", "late 0", "late a 0", "late 0 a 1",
        "late 00 a", "late 0 ", "late  a", "merge", "order", "check", "merge\n", "merges a:1", "mergea:1", "order\na:1",
        "check\n-", "insert_at 0 a 1", "start a:1", "restart a:1", "arrive a 1 # one", "exit", "arrive,a,1",
    ]

    def test_wrong_lines(self):
        for entries in ((), ("arrive a 2", "merge b:1", "arrive c 3")):
            console = Console(2)
            for line in entries:
                console.run(line)
            for line in self.WRONG_LINES:
                self.check_line_fails(console, InvalidLine, {"line": line}, line)

    def test_no_texts(self):
        console = Console(2)
        console.run("arrive a")
        for thing in NO_TUPLES + [(), ("current",), ["current"], b"current", {"current": 1}, Summary(2), console]:
            if not isinstance(thing, str):
                self.check_raises(InvalidLine, {"line": thing}, console.run, thing)
        self.check_value(console.run("current"), "a:1")

    def test_wrong_counts(self):
        console = Console(2)
        for name in names_of(13):
            console.run(f"arrive {name}")
        texts = [
            "", " ", "a", "a:", ":1", "a:0", "a:01", "a:-1", "a:+1", "a:1 ", " a:1", "a:1  b:1", "b:1 a:1", "a:1 a:1",
            "a:1 b:1 c:1", "A:1", "abcdefghi:1", "a:1,b:1", "a: 1", "a=1", "-1", "--", "- ", " -", "a:1\n", "\n", "0",
            "a:b", "a:1:1", "a:1 -",
        ]
        for word in ("merge", "order", "check"):
            for text in texts:
                # The text is wrong before the arrivals have too many names.
                self.check_line_fails(console, InvalidText, {"text": text}, f"{word} {text}")
        for word in ("order", "check"):
            self.check_line_fails(console, TooManyNames, {"found": 13}, f"{word} a:1")
        self.assertNotEqual(console.run("merge a:1"), "")

    def test_thirteen_names(self):
        console = Console(2)
        for name in names_of(12):
            console.run(f"arrive {name}")
        for line in QUESTIONS[:6] + ["late 3 zeta"]:
            self.assertIsInstance(console.run(line), str)
        console.run("arrive zeta")
        for line in ("arrived", "reductions", "range a", "range A", "order -", "check -", "order a:1 b:1"):
            self.check_line_fails(console, TooManyNames, {"found": 13}, line)
        for index in (0, 13, 14, 99):
            self.check_line_fails(console, InvalidOrder, {"index": 12}, f"late {index} a")
        self.assertIsInstance(console.run("current"), str)
        console.run("undo")
        self.assertIsInstance(console.run("arrived"), str)

    def test_a_hundred_entries(self):
        console = Console(2)
        for at in range(100):
            console.run(f"arrive a {at + 1}" if at % 2 else "merge b:1")
        for line in ("arrive a", "arrive b 7", "merge -", "merge c:1 d:2", "insert 0 a 1", "insert 100 a 1"):
            self.check_line_fails(console, TooManyActions, {"found": 101}, line)
        rows = [
            ("arrive A", InvalidName, {"name": "A"}), ("arrive a 0", InvalidTimes, {"times": 0}),
            ("merge a:0", InvalidText, {"text": "a:0"}), ("insert 101 a 1", InvalidIndex, {"index": 101}),
            ("remove 100", InvalidIndex, {"index": 100}),
        ]
        for line, error, fields in rows:
            self.check_line_fails(console, error, fields, line)
        console.run("remove 99")
        console.run("arrive b 9")
        self.check_line_fails(console, TooManyActions, {"found": 101}, "arrive a")

    def test_numbers_of_sixty_digits(self):
        console = Console(1)
        self.check_value(console.run(f"arrive a {SIXTY}"), f"a:{SIXTY}")
        self.check_value(console.run(f"insert 0 b {SIXTY}"), "-")
        self.check_value(console.run("undo"), f"a:{SIXTY}")
        self.check_value(console.run(f"true a {SIXTY}"), f"{SIXTY} {SIXTY}")
        for line in (f"arrive a {SIXTY + 1}", f"true a {SIXTY + 1}", f"late {SIXTY + 1} a", f"remove {SIXTY + 1}"):
            self.check_line_fails(console, InvalidLine, {"line": line}, line)

    def test_consoles(self):
        for capacity in WRONG_CAPACITIES:
            self.check_raises(InvalidCapacity, {"capacity": capacity}, Console, capacity)
            self.check_raises(InvalidCapacity, {"capacity": capacity}, Console, capacity=capacity)
        rows = [Console(1), Console(1), Console(2), Console(8)]
        for one, other in itertools.product(range(4), repeat=2):
            self.assertIs(rows[one] == rows[other], one == other)
            self.assertIs(rows[one] != rows[other], one != other)
        for thing in NO_TUPLES + [Collector(1), Summary(1)]:
            self.assertIs(rows[0] == thing, False)
        self.assertIs(bool(rows[0]), True)
        rows[0].run("arrive a")
        self.check_value([rows[0].run("current"), rows[1].run("current")], ["a:1", "-"])


class WholeTest(ConsoleTest):
    def test_found_again(self):
        source = seeded(92)
        for capacity in CAPACITIES:
            for most in (1, 7, 10 ** 30, SIXTY // 20):
                order = random_order(source, names_of(12), 20, most)
                end = Summary(capacity).play(order)
                self.check_value(parse_summary(capacity, str(end)), end)
                self.check_value(unpack_summary(pack_summary(end)), end)
                self.check_value(parse_counts(format_counts(end.counts)), end.counts)
                self.check_value(Console(capacity).run("merge " + str(end)), str(end))
                self.check_value(Summary(capacity).play(parse_order(format_order(order))), end)
                console = Console(capacity)
                for run in order:
                    console.run("arrive " + " ".join(map(str, run)))
                self.check_value(parse_summary(capacity, console.run("current")), end)
                self.check_value(parse_counts(console.run("arrived")), arrivals_of(order))
                again = parse_order(console.run("order " + str(end)))
                self.check_value(Summary(capacity).play(again), end)

    def entries(self, source, capacity, many, most):
        """Return entries: runs and summaries."""
        rows = []
        for run in random_order(source, names_of(12), many, most):
            rows.append(random_summary(source, capacity, most) if source.random() < 0.4 else run)
        return rows

    def filled(self, capacity, entries):
        console = Console(capacity)
        for entry in entries:
            console.run(f"merge {entry}" if isinstance(entry, Summary) else f"arrive {entry[0]} {entry[1]}")
        return console

    def merges_first(self, capacity, entries):
        """Return a console with the entries: the merges first, then each run inserted at its place."""
        console = Console(capacity)
        for entry in entries:
            if isinstance(entry, Summary):
                console.run(f"merge {entry}")
        for at, entry in enumerate(entries):
            if not isinstance(entry, Summary):
                console.run(f"insert {at} {entry[0]} {entry[1]}")
        return console

    def with_detours(self, source, capacity, entries):
        """Return a console with the entries, and a line that is undone after each line."""
        console = Console(capacity)
        for entry in entries:
            console.run(f"merge {entry}" if isinstance(entry, Summary) else f"arrive {entry[0]} {entry[1]}")
            console.run(source.choice(["arrive zeta 9", "merge a:1", "insert 0 b 3", "remove 0"]))
            console.run("undo")
        return console

    def test_entries_given_again(self):
        source = seeded(93)
        for capacity in CAPACITIES:
            for many, most in ((0, 1), (4, 3), (14, 5), (14, SIXTY), (60, 9)):
                entries = self.entries(source, capacity, many, most)
                rows = [
                    self.filled(capacity, entries), self.merges_first(capacity, entries),
                    self.with_detours(source, capacity, entries),
                ]
                current = rows[0].run("current")
                lines = QUESTIONS + [f"order {current}", f"check {current}", f"late {many // 3} zeta", "range bb"]
                size = parse_summary(capacity, current).kept() + 5 * (capacity + 1)
                for line in lines + [f"true a {size}", "late 77 a"]:
                    found = [outcome(console.run, line) for console in rows]
                    self.check_value(found[1:], found[:1] * 2)
                self.check_value(outcome(rows[1].run, "remove 0"), outcome(rows[0].run, "remove 0"))

    def test_like_a_collector_after_undo_removal_and_insertion(self):
        source = seeded(91)
        for capacity in CAPACITIES:
            console, collector = Console(capacity), Collector(capacity)
            for _ in range(80):
                entries = len(collector)
                index, name, times = source.randint(0, entries + 1), source.choice(names_of(13)), source.randint(0, 4)
                line = source.choice([
                    f"arrive {name} {times}", f"arrive {name}", f"merge {random_summary(source, capacity, 4)}", "undo",
                    f"remove {index}", f"insert {index} {name} {times}",
                ])
                self.check_value(outcome(console.run, line), outcome(answer_like, collector, line))
                for line in QUESTIONS + [f"late {entries} b", f"order {collector}", f"check {collector}"]:
                    self.check_value(outcome(console.run, line), outcome(answer_like, collector, line))
