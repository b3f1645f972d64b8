"""Promise 1: the limits."""

from tallyplans import limits
from tests.helpers import TallyTest


class LimitsTest(TallyTest):
    def test_values(self):
        found = [limits.MAX_CAPACITY, limits.MAX_NAMES, limits.MAX_RUNS, limits.MAX_ORDERS, limits.MAX_ACTIONS]
        self.check_value(found, [8, 12, 1000, 400, 100])
