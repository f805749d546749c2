"""What counts as an integer everywhere in the package."""


def is_whole(value):
    """Return whether the value is an integer; True and False are none."""
    return isinstance(value, int) and not isinstance(value, bool)
