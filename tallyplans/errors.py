"""The errors of the program.

The messages do not show the fields, which may hold values of any kind and size.
"""


class TallyError(ValueError):
    """An argument that the function does not take."""


class InvalidCapacity(TallyError):
    """The capacity is not an integer from 1 to 8."""

    def __init__(self, capacity):
        super().__init__("not a capacity")
        self.capacity = capacity


class InvalidName(TallyError):
    """The name is not a text of one to eight letters from a to z."""

    def __init__(self, name):
        super().__init__("not a name")
        self.name = name


class InvalidTimes(TallyError):
    """The times of a run are not an integer from 1 on."""

    def __init__(self, times):
        super().__init__("not the times of a run")
        self.times = times


class InvalidCounts(TallyError):
    """The elements up to the index are not counts; None: not a tuple."""

    def __init__(self, index):
        super().__init__("not counts")
        self.index = index


class InvalidSummary(TallyError):
    """The elements up to the index are not the counts of a summary or of slots; None: not a tuple."""

    def __init__(self, index):
        super().__init__("not the counts of a summary")
        self.index = index


class InvalidOrder(TallyError):
    """The elements up to the index are not an order; None: not a tuple."""

    def __init__(self, index):
        super().__init__("not an order")
        self.index = index


class InvalidPlan(TallyError):
    """The elements up to the index are not a merge plan; None: not a tuple."""

    def __init__(self, index):
        super().__init__("not a merge plan")
        self.index = index


class InvalidText(TallyError):
    """Nothing has this text or is packed to it."""

    def __init__(self, text):
        super().__init__("not the text of a value")
        self.text = text


class InvalidSize(TallyError):
    """No number of reductions fits the summary and the size."""

    def __init__(self, size):
        super().__init__("not a size that fits the summary")
        self.size = size


class InvalidNumber(TallyError):
    """The number is not an integer that the function takes."""

    def __init__(self, number):
        super().__init__("not such a number")
        self.number = number


class InvalidSlots(TallyError):
    """The number of slots is not an integer from 2 to 9."""

    def __init__(self, slots):
        super().__init__("not a number of slots")
        self.slots = slots


class InvalidIndex(TallyError):
    """The index is not an integer in its range."""

    def __init__(self, index):
        super().__init__("not an index")
        self.index = index


class InvalidAction(TallyError):
    """The element at the index is not an action; None: the value itself is not."""

    def __init__(self, index):
        super().__init__("not an action")
        self.index = index


class InvalidLine(TallyError):
    """The line is not a command."""

    def __init__(self, line):
        super().__init__("not a command")
        self.line = line


class NotASummary(TallyError):
    """The value is not a Summary."""

    def __init__(self, value):
        super().__init__("not a summary")
        self.value = value


class StateError(LookupError):
    """A call that does not fit the objects as they are."""


class CapacitiesDiffer(StateError):
    """The second summary has this capacity, the first one another."""

    def __init__(self, capacity):
        super().__init__("the capacities differ")
        self.capacity = capacity


class Busy(StateError):
    """The collector is at work."""


class NothingToUndo(StateError):
    """No action is left to undo."""


class SizeError(ArithmeticError):
    """A result that would exceed a limit."""


class TooManyNames(SizeError):
    """So many different names are more than the limit."""

    def __init__(self, found):
        super().__init__("too many names")
        self.found = found


class TooManyActions(SizeError):
    """So many entries are more than the limit."""

    def __init__(self, found):
        super().__init__("too many actions")
        self.found = found
