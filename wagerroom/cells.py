"""Partitions of the cases, written as labels."""

from wagerroom.errors import InvalidLabelsError, MismatchError
from wagerroom.kinds import is_whole

CASE_LIMIT = 12


def is_valid_labels(value):
    """Return whether any value is the labels of a partition."""
    if not isinstance(value, tuple) or not 1 <= len(value) <= CASE_LIMIT:
        return False
    known = 0
    for label in value:
        if not is_whole(label) or not 0 <= label <= known:
            return False
        # The next new part must take this very number, so that a partition
        # has only one tuple of labels.
        known = max(known, label + 1)
    return True


def check_labels(value):
    """Raise InvalidLabelsError if the value is not labels."""
    if not is_valid_labels(value):
        raise InvalidLabelsError("not the labels of a partition")


def check_alike(partitions):
    """Raise an error if the partitions are not labels of the same cases."""
    for labels in partitions:
        check_labels(labels)
    if len(partitions) == 0:
        raise MismatchError("there must be at least one partition")
    for labels in partitions:
        if len(labels) != len(partitions[0]):
            raise MismatchError("the partitions have different lengths")


def labelled(marks):
    """Return the labels in which cases with equal marks are in one part."""
    numbers = {}
    labels = []
    for mark in marks:
        if mark not in numbers:
            numbers[mark] = len(numbers)
        labels.append(numbers[mark])
    return tuple(labels)


def parts_of(labels):
    """Return the tuple of the parts, each the tuple of its cases."""
    check_labels(labels)
    parts = [[] for number in range(max(labels) + 1)]
    for case, label in enumerate(labels):
        parts[label].append(case)
    return tuple([tuple(part) for part in parts])


def refined(*partitions):
    """Return the labels of the coarsest partition that is as fine as each argument."""
    check_alike(partitions)
    return labelled(list(zip(*partitions)))


def linked(marks, part):
    """Return the marks after all cases that share one with the part get the same."""
    shared = [marks[case] for case in part]
    least = min(shared)
    return [least if mark in shared else mark for mark in marks]


def joined(*partitions):
    """Return the labels of the finest partition that is as coarse as each argument."""
    check_alike(partitions)
    marks = list(range(len(partitions[0])))
    for labels in partitions:
        for part in parts_of(labels):
            marks = linked(marks, part)
    return labelled(marks)
