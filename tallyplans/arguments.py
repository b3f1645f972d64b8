"""Checks of single arguments: each raises the error of a wrong one."""

from tallyplans.errors import InvalidIndex, InvalidName, InvalidNumber, InvalidTimes
from tallyplans.names import is_integer_from, is_name


def check_name(thing):
    """Raise InvalidName if any value is not a name."""
    if not is_name(thing):
        raise InvalidName(thing)


def check_run(name, times):
    """Raise InvalidName or InvalidTimes if two values of any kind are not the name and the times of a run."""
    check_name(name)
    if not is_integer_from(times, 1):
        raise InvalidTimes(times)


def check_number(thing, least):
    """Raise InvalidNumber if any value is not an integer from the least one on."""
    if not is_integer_from(thing, least):
        raise InvalidNumber(thing)


def check_index(thing, most):
    """Raise InvalidIndex if any value is not an integer from 0 to the most."""
    if not is_integer_from(thing, 0) or thing > most:
        raise InvalidIndex(thing)
