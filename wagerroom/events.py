"""Events: tuples of different cases in ascending order."""

from wagerroom.errors import InvalidEventError
from wagerroom.kinds import is_whole


def is_event(value, many):
    """Return whether any value is an event of the cases from 0 to many - 1."""
    if not isinstance(value, tuple):
        return False
    least = 0
    for case in value:
        if not is_whole(case) or not least <= case < many:
            return False
        least = case + 1
    return True


def check_event(value, many):
    """Raise InvalidEventError if the value is not an event of so many cases."""
    if not is_event(value, many):
        raise InvalidEventError("not a tuple of different cases in ascending order")
