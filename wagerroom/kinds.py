"""What counts as an integer everywhere in the package."""


def is_whole(value):
    """Return whether the value is an integer; True and False are none."""
    return isinstance(value, int) and not isinstance(value, bool)


def is_number_of(value, many):
    """Return whether any value is the number of one of so many things."""
    return is_whole(value) and 0 <= value < many
