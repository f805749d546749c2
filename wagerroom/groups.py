"""Groups of observers that are in harmony, and those that quarrel."""

from wagerroom.sources import source


def in_harmony(room, *numbers):
    """Return whether every region has a source in the room with only these observers."""
    smaller = room.only(*numbers)
    return all([source(smaller, region)[0] == "source" for region in range(len(smaller.regions))])


def all_groups(room):
    """Return the list of all groups in ascending order."""
    groups = [()]
    for number in range(len(room.observers)):
        groups = groups + [(*group, number) for group in groups]
    # The empty tuple is the least one, and no group.
    return sorted(groups)[1:]


def is_within(group, other):
    """Return whether a group is contained in another one, which is larger."""
    return len(group) < len(other) and all([number in other for number in group])


def largest_groups(room):
    """Return the groups in harmony that are contained in no other group in harmony."""
    found = [group for group in all_groups(room) if in_harmony(room, *group)]
    return tuple([group for group in found if not any([is_within(group, other) for other in found])])


def least_quarrels(room):
    """Return the groups that are not in harmony while every smaller group in them is."""
    found = [group for group in all_groups(room) if not in_harmony(room, *group)]
    return tuple([group for group in found if not any([is_within(other, group) for other in found])])
