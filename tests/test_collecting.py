"""Promises 60 to 66: collectors."""

import copy
import inspect

from tallyplans.collecting import Collector
from tallyplans.errors import (
    CapacitiesDiffer, InvalidAction, InvalidCapacity, InvalidIndex, InvalidName, InvalidTimes, NotASummary,
    NothingToUndo, TooManyActions, TooManyNames,
)
from tallyplans.summaries import Summary
from tests.collectors import (
    arrived_or_error, by_method, done, expected_told, full_collector, random_actions, random_summary, result_of, told,
)
from tests.helpers import TallyTest
from tests.reference import seeded
from tests.samples import (
    CAPACITIES, NO_SUMMARIES, NO_TUPLES, SIXTY, WRONG_CAPACITIES, WRONG_COUNTS, WRONG_NAMES, counts_of, names_of,
    nested,
)

# Each is an action by its word and its length, whatever its elements are.
SHAPES = [("arrive", "a", 1), ("merge", None), ("insert", 0, "a", 1), ("remove", 0), ("start", None)]

NO_ACTIONS = NO_TUPLES + [
    (), ("arrive",), ("arrive", "a"), ("arrive", "a", 1, 1), ("merge",), ("merge", Summary(2), 1), ("insert",),
    ("insert", 0, "a"), ("insert", 0, "a", 1, 1), ("remove",), ("remove", 0, 0), ("start",), ("start", Summary(2), 1),
    ("jump", 1), ("undo",), ("Arrive", "a", 1), ("arrive ", "a", 1), ("a", "arrive", 1), (b"arrive", "a", 1),
    (("arrive",), "a", 1), (["arrive"], "a", 1), ({"arrive": 1}, "a", 1), (None, "a", 1), (True, 0), (0, "a"),
    ["arrive", "a", 1], ("insert_at", 0, "a", 1), ("restart", Summary(2)), ("", ""), nested(12), Summary(2),
    Collector(2),
]

WRONG_INDEXES = [thing for thing in WRONG_COUNTS if repr(thing) != "0"] + [-2, 10 ** 30]


def wrong_actions(entries):
    """Return rows: an action that fails with so many entries, capacity 2, the class and the fields of its error."""
    rows = []
    for name in WRONG_NAMES:
        for times in (1, 0, None):
            rows.append((("arrive", name, times), InvalidName, {"name": name}))
            rows.append((("insert", entries, name, times), InvalidName, {"name": name}))
    for times in WRONG_COUNTS:
        rows.append((("arrive", "a", times), InvalidTimes, {"times": times}))
        rows.append((("insert", 0, "a", times), InvalidTimes, {"times": times}))
    for thing in NO_SUMMARIES + [Collector(2)]:
        for word in ("merge", "start"):
            rows.append(((word, thing), NotASummary, {"value": thing}))
    for capacity in (1, 3, 8):
        for word in ("merge", "start"):
            rows.append(((word, Summary(capacity)), CapacitiesDiffer, {"capacity": capacity}))
    for index in WRONG_INDEXES + [entries + 1]:
        for name, times in (("a", 1), ("A", 1), (None, None)):
            rows.append((("insert", index, name, times), InvalidIndex, {"index": index}))
    for index in WRONG_INDEXES + [entries]:
        rows.append((("remove", index), InvalidIndex, {"index": index}))
    return rows


class CollectorTest(TallyTest):
    """What the tests of collectors need."""

    def check_told(self, collector, state, history, attempts, busy=False):
        """Check all that the collector tells."""
        self.check_value(told(collector), expected_told(collector.capacity, state, history, attempts, busy))

    def check_fails(self, collector, error, fields, call, *args, **named):
        """Check that the call raises the error and that the collector stays as it is."""
        before = told(collector)
        self.check_raises(error, fields, call, *args, **named)
        self.check_value(told(collector), before)


class ExamplesTest(CollectorTest):
    def test_do(self):
        collector = Collector(2)
        collector.do(("arrive", "a", 3))
        current = collector.do(("insert", 0, "b", 1))
        found = [str(current), collector.entries(), collector.arrived(), repr(collector)]
        self.check_value(found, ["a:3 b:1", (("b", 1), ("a", 3)), (("a", 3), ("b", 1)), "Collector(2, 2 entries)"])
        self.check_raises(InvalidIndex, {"index": 0}, Collector(2).do, ("remove", 0))
        self.check_raises(InvalidAction, {"index": None}, Collector(2).do, ("arrive", "a"))

    def test_too_many_actions(self):
        collector = Collector(2)
        collector.do_all((("arrive", "a", 1),) * 100)
        self.check_raises(TooManyActions, {"found": 101}, collector.arrive, "b")

    def test_methods(self):
        collector = Collector(2)
        texts = [str(collector.arrive("a", 5)), str(collector.merge(Summary(2, (("b", 3), ("c", 2)))))]
        found = [texts, str(collector.insert_at(0, "b")), str(collector.remove_at(1)), len(collector)]
        self.check_value(found, [["a:5", "a:3 b:1"], "a:3 b:2", "b:4 c:2", 2])

    def test_do_all(self):
        collector = Collector(2)
        first = collector.do_all((("arrive", "a", 2), ("arrive", "b", 1), ("arrive", "c", 1)))
        found = [str(first), str(collector.undo()), str(collector.preview((("arrive", "b", 4),)))]
        self.check_value(found + [collector.attempts, collector.busy], ["a:1", "a:2 b:1", "a:2 b:5", 1, False])
        self.check_raises(InvalidAction, {"index": 1}, Collector(2).do_all, (("arrive", "a", 2), ("jump", 1)))
        self.check_raises(NothingToUndo, {}, Collector(2).undo)


class ActionsTest(CollectorTest):
    def test_new(self):
        for capacity in CAPACITIES:
            for collector in (Collector(capacity), Collector(capacity=capacity)):
                self.check_told(collector, (Summary(capacity), ()), (), 0)
                self.assertIs(collector.busy, False)

    def test_observer_is_passed_by_name(self):
        observer = inspect.signature(Collector.do_all).parameters["observer"]
        self.assertIs(observer.kind, inspect.Parameter.KEYWORD_ONLY)
        self.assertIsNone(observer.default)

    def ways(self):
        """Return functions that do an action of a collector, each in another way."""
        return [
            lambda collector, action: collector.do(action),
            lambda collector, action: collector.do(action=action),
            lambda collector, action: by_method(collector, action),
            lambda collector, action: by_method(collector, action, True),
        ]

    def test_actions_in_all_ways(self):
        source = seeded(60)
        for capacity in CAPACITIES:
            for many, most in ((12, 3), (30, SIXTY)):
                actions = random_actions(source, capacity, many, most)
                for way in self.ways():
                    collector, state, history = Collector(capacity), (Summary(capacity), ()), []
                    for action in actions:
                        state = done(state, action)
                        history.append(action)
                        self.check_value(way(collector, action), result_of(state))
                        self.check_told(collector, state, history, 0)

    def test_times_left_out(self):
        for collector in (Collector(1), Collector(8)):
            collector.arrive("a")
            collector.arrive(name="b")
            collector.insert_at(1, "c")
            collector.insert_at(name="d", index=0)
            expected = (("arrive", "a", 1), ("arrive", "b", 1), ("insert", 1, "c", 1), ("insert", 0, "d", 1))
            self.check_value(collector.history(), expected)
            self.check_value(collector.entries(), (("d", 1), ("a", 1), ("c", 1), ("b", 1)))

    def test_start_comes_first_whenever_it_is_set(self):
        collector = Collector(1)
        collector.arrive("a", 3)
        collector.merge(Summary(1, (("b", 4),)))
        self.check_value(collector.current(), Summary(1, (("b", 1),)))
        self.check_value(collector.restart(Summary(1, (("c", 2),))), Summary(1, (("b", 3),)))
        self.check_value(collector.start(), Summary(1, (("c", 2),)))
        self.check_value(len(collector), 2)

    def test_insert_everywhere(self):
        for at in range(4):
            collector = Collector(3)
            entries = [("a", 2), Summary(3, (("b", 1),)), ("c", 3)]
            collector.do_all((("arrive", "a", 2), ("merge", entries[1]), ("arrive", "c", 3)))
            collector.insert_at(at, "d", 4)
            entries.insert(at, ("d", 4))
            self.check_value(collector.entries(), tuple(entries))
            collector.remove_at(at)
            entries.pop(at)
            self.check_value(collector.entries(), tuple(entries))


class DoAllTest(CollectorTest):
    def test_like_one_by_one(self):
        source = seeded(61)
        for capacity in CAPACITIES:
            for many in (0, 1, 2, 30, 150):
                actions = tuple(random_actions(source, capacity, many, source.choice([3, SIXTY])))
                single = Collector(capacity)
                for action in actions:
                    single.do(action)
                for collector in (Collector(capacity), Collector(capacity)):
                    before = copy.deepcopy(actions)
                    self.check_value(collector.do_all(actions=actions), single.current())
                    self.check_value(actions, before)
                    self.assertIs(collector == single, True)
                    self.check_told(collector, (single.start(), single.entries()), actions, 1)
                    self.check_value(collector.do_all((), observer=None), single.current())
                    self.check_told(collector, (single.start(), single.entries()), actions, 2)

    def check_all_fail(self, before, wrong, error, fields):
        """Check an action that fails behind others, alone, and before ones that fail otherwise."""
        good = (("start", Summary(2, (("q", 5),))), ("arrive", "b", 1), ("remove", 1))
        for actions in ((wrong,), good + (wrong,), good + (wrong, ("arrive", "", 0), ("merge", 3)), (wrong,) + good):
            collector = Collector(2)
            collector.do_all(before)
            collector.undo()
            expected = told(collector)
            self.check_raises(error, fields, collector.do_all, actions)
            expected[-2] += 1
            self.check_value(told(collector), expected)
            self.check_fails(collector, error, fields, collector.preview, actions)
            self.check_value(collector.do_all(good), Summary(2, (("a", 3), ("q", 5))))

    def test_an_action_that_fails(self):
        # One entry is left when the actions come.
        before = (("arrive", "a", 3), ("arrive", "c", 3))
        for action, error, fields in wrong_actions(1)[::3]:
            self.check_all_fail(before, action, error, fields)

    def test_index_of_the_state_so_far(self):
        collector = Collector(2)
        actions = (("arrive", "a", 1), ("insert", 2, "b", 1))
        self.check_raises(InvalidIndex, {"index": 2}, collector.do_all, actions)
        found = collector.do_all((("arrive", "a", 1), ("insert", 1, "b", 1)))
        self.check_value(found, Summary(2, (("a", 1), ("b", 1))))
        self.check_raises(InvalidIndex, {"index": 1}, collector.do_all, (("remove", 0), ("remove", 1)))
        self.check_value(collector.do_all((("remove", 0), ("remove", 0))), Summary(2))
        self.check_value([collector.attempts, len(collector.history())], [4, 4])


class UndoTest(CollectorTest):
    def test_undo_all(self):
        source = seeded(62)
        for capacity in CAPACITIES:
            actions = random_actions(source, capacity, 40, source.choice([3, SIXTY]))
            collector, state = Collector(capacity), (Summary(capacity), ())
            states = [state]
            for action in actions:
                state = done(state, action)
                states.append(state)
            for action in actions[:10]:
                collector.do(action)
            collector.do_all(tuple(actions[10:30]))
            for action in actions[30:]:
                by_method(collector, action)
            for many in range(40, 0, -1):
                self.check_told(collector, states[many], actions[:many], 1)
                self.check_value(collector.undo(), result_of(states[many - 1]))
            self.check_told(collector, states[0], (), 1)
            self.check_fails(collector, NothingToUndo, {}, collector.undo)

    def test_undo_and_do_again(self):
        source = seeded(63)
        for _ in range(20):
            collector, state, past = Collector(3), (Summary(3), ()), []
            for _ in range(60):
                if past and source.random() < 0.4:
                    _, state = past.pop()
                    self.check_value(collector.undo(), result_of(state))
                else:
                    action = random_actions(source, 3, 1, 5)[0] if not state[1] else ("remove", len(state[1]) - 1)
                    if source.random() < 0.5:
                        action = ("start", random_summary(source, 3, 9))
                    past.append((action, state))
                    state = done(state, action)
                    self.check_value(collector.do(action), result_of(state))
                self.check_told(collector, state, [action for action, _ in past], 0)

    def test_a_failing_action_adds_nothing(self):
        collector = Collector(2)
        collector.arrive("a", 2)
        for action, error, fields in wrong_actions(1)[::5]:
            self.check_fails(collector, error, fields, collector.do, action)
        self.check_value([collector.undo(), collector.history()], [Summary(2), ()])

    def test_any_number_of_actions(self):
        collector = Collector(2)
        for _ in range(3):
            collector.do_all((("arrive", "a", 1), ("remove", 0), ("start", Summary(2, (("b", 1),)))) * 1000)
        self.check_value([len(collector.history()), len(collector)], [9000, 0])
        for _ in range(9000):
            collector.undo()
        self.check_told(collector, (Summary(2), ()), (), 3)
        self.check_raises(NothingToUndo, {}, collector.undo)


class PreviewTest(CollectorTest):
    def test_like_do_all(self):
        source = seeded(64)
        for capacity in CAPACITIES:
            collector = Collector(capacity)
            for many in (0, 1, 5, 30):
                later = tuple(random_actions(source, capacity, many, 9))
                before = told(collector)
                found = collector.preview(later)
                self.check_value(collector.preview(actions=later), found)
                self.check_value(told(collector), before)
                self.check_value(collector.do_all(later), found)

    def test_limit(self):
        collector = full_collector()
        actions = (("remove", 5), ("arrive", "a", 1))
        state = (collector.start(), collector.entries())
        self.check_value(collector.preview(actions), result_of(done(done(state, actions[0]), actions[1])))
        actions = actions + (("merge", Summary(2)),)
        self.check_fails(collector, TooManyActions, {"found": 101}, collector.preview, actions)


class ErrorsTest(CollectorTest):
    def test_no_capacity(self):
        for capacity in WRONG_CAPACITIES:
            self.check_raises(InvalidCapacity, {"capacity": capacity}, Collector, capacity)
            self.check_raises(InvalidCapacity, {"capacity": capacity}, Collector, capacity=capacity)

    def test_no_action(self):
        collector = Collector(2)
        collector.arrive("a", 2)
        for thing in NO_ACTIONS:
            self.check_fails(collector, InvalidAction, {"index": None}, collector.do, thing)
            for call in (collector.do_all, collector.preview):
                self.check_fails(collector, InvalidAction, {"index": 0}, call, (thing,))
                self.check_fails(collector, InvalidAction, {"index": 1}, call, (("arrive", "", 0), thing, 3))
                self.check_fails(collector, InvalidAction, {"index": 5}, call, (*SHAPES, thing, thing))
        for thing in NO_TUPLES + [Collector(2), Summary(2), [("arrive", "a", 1)]]:
            for call in (collector.do_all, collector.preview):
                self.check_fails(collector, InvalidAction, {"index": None}, call, thing)

    def test_wrong_arguments_by_do_and_by_method(self):
        for entries in (0, 1, 3):
            collector = Collector(2)
            collector.do_all((("arrive", "a", 2),) * entries)
            for action, error, fields in wrong_actions(entries):
                self.check_fails(collector, error, fields, collector.do, action)
                self.check_fails(collector, error, fields, by_method, collector, action)
                self.check_fails(collector, error, fields, by_method, collector, action, True)

    def test_counted_attempts(self):
        collector = Collector(2)
        calls = [
            (("arrive", "a", 1),), (("arrive", "", 1),), None, (), (3,), (("remove", 7),), [("arrive", "a", 1)],
            (("arrive", "a", 1), ("jump",)),
        ]
        expected = [1, 2, 2, 3, 3, 4, 4, 4]
        for actions, attempts in zip(calls, expected):
            try:
                collector.do_all(actions)
            except (InvalidAction, InvalidName, InvalidIndex):
                pass
            self.check_value([collector.attempts, collector.busy], [attempts, False])
        collector.preview(())
        collector.undo()
        collector.arrive("b")
        self.check_value(collector.attempts, 4)

    def test_a_hundred_entries(self):
        for capacity in (1, 2, 8):
            collector = full_collector(capacity)
            summary = Summary(capacity, counts_of(1))
            for action in (("arrive", "b", 1), ("merge", summary), ("insert", 0, "b", 1), ("insert", 100, "b", 1)):
                for call in (collector.do, lambda action: by_method(collector, action)):
                    self.check_fails(collector, TooManyActions, {"found": 101}, call, action)
                self.check_fails(collector, TooManyActions, {"found": 101}, collector.preview, (action,))
                before = told(collector)
                self.check_raises(TooManyActions, {"found": 101}, collector.do_all, (("start", summary), action))
                before[-2] += 1
                self.check_value(told(collector), before)
        collector = full_collector()
        for action, error, fields in wrong_actions(100)[::2]:
            self.check_fails(collector, error, fields, collector.do, action)
        self.check_value(collector.restart(Summary(2)), collector.current())
        collector.remove_at(99)
        self.check_value(len(collector), 99)
        collector.insert_at(99, "b", 2)
        self.check_value([len(collector), collector.entries()[99]], [100, ("b", 2)])
        collector.undo()
        collector.merge(Summary(2))
        self.check_raises(TooManyActions, {"found": 101}, collector.arrive, "a", SIXTY)

    def test_too_many_names(self):
        for many in range(10, 17):
            collector = Collector(2)
            for name in names_of(16)[:many]:
                collector.arrive(name, SIXTY)
            collector.merge(Summary(2, (("x", 1), ("y", 1))))
            collector.restart(Summary(2, (("w", 1),)))
            expected = tuple((name, SIXTY) for name in names_of(16)[:many])
            self.check_value(arrived_or_error(collector), expected if many <= 12 else many)
            if many > 12:
                self.check_fails(collector, TooManyNames, {"found": many}, collector.arrived)
                for _ in range(many - 12):
                    collector.remove_at(0)
                self.check_value(len(collector.arrived()), 12)


class EqualTest(CollectorTest):
    def collectors(self):
        rows = []
        for capacity in (1, 2, 8):
            for start in ((), (("a", 1),), (("a", 2),)):
                for entries in ((), (("b", 1),), (("b", 2),), (("b", 1), ("b", 1)), (Summary(capacity),),
                                (Summary(capacity, (("b", 1),)),), (("b", 1), Summary(capacity)),
                                (Summary(capacity), ("b", 1))):
                    rows.append((capacity, start, entries))
        return rows

    def built(self, row, detour):
        capacity, start, entries = row
        collector = Collector(capacity)
        if detour:
            collector.do_all((("arrive", "z", 1), ("remove", 0)))
        for entry in entries:
            collector.do(("merge", entry) if isinstance(entry, Summary) else ("arrive", *entry))
        if start or detour:
            collector.restart(Summary(capacity, start))
        return collector

    def test_equal_exactly_if_all_three_are(self):
        rows = self.collectors()
        ones, others = [self.built(row, False) for row in rows], [self.built(row, True) for row in rows]
        for at, one in enumerate(ones):
            for place, other in enumerate(others):
                self.assertIs(one == other, at == place)
                self.assertIs(one != other, at != place)
                self.assertIs(other == one, at == place)

    def test_nothing_of_another_class_is_equal(self):
        for collector in (Collector(2), full_collector()):
            others = [(), Summary(2), collector.current(), collector.entries(), str(collector), nested(13)]
            for other in NO_TUPLES + others:
                self.assertIs(collector == other, False)
                self.assertIs(other == collector, False)
                self.assertIs(collector != other, True)

    def test_returned_values_do_not_change_later(self):
        collector = Collector(2)
        collector.arrive("a", 2)
        kept = [collector.entries(), collector.history(), collector.current(), collector.start()]
        before = copy.deepcopy(kept)
        collector.arrive("b")
        collector.restart(Summary(2, (("c", 1),)))
        collector.undo()
        self.check_value(kept, before)
