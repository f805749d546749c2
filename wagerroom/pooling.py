"""Pooling: what several observers know together, and rooms put together."""

from wagerroom.cells import parts_of, refined
from wagerroom.errors import InvalidRoomError, OddsDifferError
from wagerroom.observers import Observer
from wagerroom.ratios import quotient, total_at
from wagerroom.rooms import Room, check_observers


def check_ratios(labels, observers):
    """Raise OddsDifferError if two observers have different ratios of odds within a part."""
    for one, label in enumerate(labels):
        for other in range(one + 1, len(labels)):
            if labels[other] == label:
                ratios = [quotient(observer.odds[one], observer.odds[other]) for observer in observers]
                if any([ratio != ratios[0] for ratio in ratios]):
                    raise OddsDifferError(one, other)


def pooled(*observers):
    """Return an Observer that sees what all of these observers see."""
    check_observers(observers)
    partitions = [observer.labels for observer in observers]
    labels = refined(*partitions)
    check_ratios(labels, observers)
    odds = observers[0].odds
    wholes = [total_at(odds, part) for part in parts_of(labels)]
    return Observer(labels, tuple([quotient(worth, wholes[label]) for worth, label in zip(odds, labels)]))


def merged(*rooms):
    """Return a new room with the observers of all rooms, in which all cases are present."""
    if not all([isinstance(room, Room) for room in rooms]):
        raise InvalidRoomError("one of the values is not a room")
    # Without any room there are no observers, and Room refuses that.
    observers = [observer for room in rooms for observer in room.observers]
    return Room(*observers)
