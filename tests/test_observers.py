"""Promise 64: observers of Collector.do_all."""

from tallyplans.collecting import Collector
from tallyplans.errors import Busy, InvalidAction, InvalidIndex, TooManyActions
from tallyplans.summaries import Summary
from tests.collectors import done, expected_told, full_collector, random_actions, told
from tests.helpers import TallyTest
from tests.reference import seeded
from tests.samples import CAPACITIES, NO_TUPLES, SIXTY

ACTIONS = (
    ("arrive", "a", 2), ("arrive", "b", 1), ("start", Summary(2, (("c", 3),))), ("arrive", "c", 1), ("remove", 0),
)


class Stop(Exception):
    """What an observer raises."""


class StopAll(BaseException):
    """What an observer raises, no Exception."""


def started_collector():
    """Return a collector with entries, a history and an attempt."""
    collector = Collector(2)
    collector.do_all((("arrive", "d", 4), ("merge", Summary(2, (("e", 1),)))))
    collector.arrive("d")
    collector.undo()
    return collector


def changing_calls(collector):
    """Return calls of all methods that do or undo an action, with valid and with invalid arguments."""
    rows = [(collector.undo, ())]
    for summary in (Summary(2), Summary(3), None):
        rows += [(collector.merge, (summary,)), (collector.restart, (summary,))]
    for name in ("a", "A", None):
        rows += [(collector.arrive, (name,)), (collector.arrive, (name, 0)), (collector.insert_at, (0, name))]
        rows += [(collector.insert_at, (99, name, None))]
    for index in (0, -1, None):
        rows.append((collector.remove_at, (index,)))
    for thing in NO_TUPLES + [(), ("arrive", "a", 1), ("arrive", "A", 1), ("jump",)]:
        rows += [(collector.do, (thing,)), (collector.do_all, (thing,)), (collector.do_all, ((thing,),))]
    return rows


class ObserverTest(TallyTest):
    def test_called_after_each_action(self):
        source = seeded(65)
        for capacity in CAPACITIES:
            for many in (0, 1, 40):
                self.check_watched(capacity, tuple(random_actions(source, capacity, many, source.choice([3, SIXTY]))))

    def check_watched(self, capacity, actions):
        collector = Collector(capacity)
        collector.do_all((("start", Summary(capacity)),))
        states = [(Summary(capacity), ())]
        for action in actions:
            states.append(done(states[-1], action))
        seen = []

        def observer(found, index):
            self.assertIs(found, collector)
            history = (("start", Summary(capacity)),) + actions[:index + 1]
            self.check_value(told(found), expected_told(capacity, states[index + 1], history, 2, True))
            later = (("start", Summary(capacity, (("q", 1),))), ("arrive", "r", 2))
            self.check_value(found.preview(later), Collector.preview(self.like(found), later))
            self.check_value(told(found), expected_told(capacity, states[index + 1], history, 2, True))
            seen.append(index)

        collector.do_all(actions, observer=observer)
        self.check_value(seen, list(range(len(actions))))
        history = (("start", Summary(capacity)),) + actions
        self.check_value(told(collector), expected_told(capacity, states[-1], history, 2))

    def like(self, collector):
        """Return a new collector with the start summary and the entries of another one."""
        new = Collector(collector.capacity)
        new.restart(collector.start())
        for entry in collector.entries():
            new.do(("merge", entry) if isinstance(entry, Summary) else ("arrive", *entry))
        self.assertIs(new == collector, True)
        return new

    def test_busy(self):
        collector = started_collector()
        raised = []

        def observer(found, _):
            before = told(found)
            for call, arguments in changing_calls(found):
                self.check_raises(Busy, {}, call, *arguments)
                raised.append(call)
            self.check_value(told(found), before)

        collector.do_all(ACTIONS, observer=observer)
        self.assertEqual(len(raised), len(ACTIONS) * len(changing_calls(collector)))
        plain = started_collector()
        plain.do_all(ACTIONS)
        self.check_value(told(collector), told(plain))

    def test_preview_fails_while_busy(self):
        collector = started_collector()
        seen = []

        def observer(found, index):
            before = told(found)
            self.check_raises(InvalidAction, {"index": 1}, found.preview, (("remove", 0), None))
            self.check_raises(InvalidAction, {"index": None}, found.preview, None)
            self.check_raises(InvalidIndex, {"index": 50}, found.preview, (("remove", 50),))
            self.check_value(told(found), before)
            seen.append(index)

        collector.do_all(ACTIONS, observer=observer)
        self.check_value(seen, [0, 1, 2, 3, 4])

    def test_exceptions(self):
        for error in (Stop, StopAll, KeyError, Busy, ValueError):
            for at in range(len(ACTIONS)):
                collector = started_collector()
                before = told(collector)
                calls = []

                def observer(found, index):
                    calls.append(index)
                    if index == at:
                        raise error()

                with self.assertRaises(error) as caught:
                    collector.do_all(ACTIONS, observer=observer)
                self.assertIs(caught.exception.__class__, error)
                self.check_value(calls, list(range(at + 1)))
                before[-2] += 1
                self.check_value(told(collector), before)
                self.assertIs(collector.busy, False)
                collector.do_all(ACTIONS)
                collector.undo()
                self.check_value(len(collector.history()), 2 + len(ACTIONS) - 1)

    def test_busy_that_leaves_the_observer(self):
        collector = started_collector()
        before = told(collector)
        with self.assertRaises(Busy):
            collector.do_all(ACTIONS, observer=lambda found, index: found.arrive("a"))
        before[-2] += 1
        self.check_value(told(collector), before)

    def test_an_action_that_fails_behind_observed_ones(self):
        collector = started_collector()
        before = told(collector)
        calls = []
        wrong = ACTIONS[:2] + (("remove", 9),) + ACTIONS
        observer = (lambda found, index: calls.append((index, found.history()[-1])))
        self.check_raises(InvalidIndex, {"index": 9}, collector.do_all, wrong, observer=observer)
        self.check_value(calls, [(0, ACTIONS[0]), (1, ACTIONS[1])])
        before[-2] += 1
        self.check_value(told(collector), before)

    def test_not_called_for_what_is_no_action(self):
        collector = started_collector()
        before = told(collector)
        calls = []
        for actions in ((ACTIONS[0], None), [ACTIONS[0]], None):
            with self.assertRaises(InvalidAction):
                collector.do_all(actions, observer=lambda found, index: calls.append(index))
        self.check_value([calls, told(collector)], [[], before])

    def test_full(self):
        collector = full_collector()
        before = told(collector)
        calls = []
        actions = (("remove", 0), ("arrive", "a", 1), ("arrive", "b", 1))
        observer = (lambda found, index: calls.append((index, len(found))))
        self.check_raises(TooManyActions, {"found": 101}, collector.do_all, actions, observer=observer)
        self.check_value(calls, [(0, 99), (1, 100)])
        before[-2] += 1
        self.check_value(told(collector), before)

    def test_other_collectors_are_free(self):
        one, other = started_collector(), started_collector()
        seen = []

        def observer(found, index):
            other.do_all((("arrive", "a", index + 1),), observer=lambda inner, _: seen.append((inner.busy, one.busy)))
            self.assertIs(other.busy, False)

        one.do_all(ACTIONS, observer=observer)
        self.check_value(seen, [(True, True)] * len(ACTIONS))
        self.check_value([one.attempts, other.attempts], [2, 1 + len(ACTIONS)])
