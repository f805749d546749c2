"""Rooms for the tests, and the means to make them."""

import itertools
from fractions import Fraction

from tests.helper import OTHER_KINDS
from wagerroom.observers import Believer, Diarist, Observer, Recorder
from wagerroom.rooms import Room

CLASSES = (Observer, Believer, Recorder, Diarist)


def exact(pair):
    return Fraction(pair[0], pair[1])


def pair_of(value):
    value = Fraction(value)
    return (value.numerator, value.denominator)


def room_with(*observers, cases=None):
    """A room of these observers in which these cases are present, or all."""
    room = Room(*observers)
    if cases is not None:
        room.cases = cases
    return room


def are_linked(room, one, other):
    return any(observer.labels[one] == observer.labels[other] for observer in room.observers)


def regions_by_hand(room):
    """The regions by the words of point 41."""
    left = list(room.cases)
    found = []
    while left:
        region = [left.pop(0)]
        for case in region:
            linked = [other for other in left if are_linked(room, case, other)]
            region += linked
            left = [other for other in left if other not in linked]
        found.append(tuple(sorted(region)))
    return tuple(found)


def present_odds_by_hand(room, number):
    """The present odds of an observer by the words of point 41."""
    labels = room.observers[number].labels
    odds = [exact(pair) for pair in room.observers[number].odds]
    return tuple(
        pair_of(odds[case] / sum(odds[other] for other in room.cases if labels[other] == labels[case]))
        for case in room.cases
    )


def parts_by_hand(room):
    """The parts of a room by the words of points 41 and 91: their names and their present cases."""
    found = {}
    for number, observer in enumerate(room.observers):
        for part in observer.parts:
            inside = tuple(case for case in part if case in room.cases)
            if inside:
                found[number, inside[0]] = inside
    return found


def pieces_by_hand(room, cases, left_out=()):
    """The pieces into which the links of all parts but these divide the cases of a region.

    Each with weights that agree with all odds but those of these parts, or with
    None if there are none.
    """
    links = [
        (one, other, exact(odds[other]) / exact(odds[one]))
        for name, part in parts_by_hand(room).items()
        for odds in [room.observers[name[0]].odds]
        for one, other in itertools.permutations(part, 2)
        if name not in left_out
    ]
    pieces = []
    for root in cases:
        if any(root in piece for piece, _ in pieces):
            continue
        worth = {root: Fraction(1)}
        border = [root]
        for case in border:
            for one, other, ratio in links:
                if one == case and other not in worth:
                    worth[other] = worth[one] * ratio
                    border.append(other)
        fits = all(worth[one] * ratio == worth[other] for one, other, ratio in links if one in worth)
        pieces.append((tuple(sorted(worth)), worth if fits else None))
    return pieces


def can_be_mended_by_hand(room, cases, names):
    """Whether the odds of these parts of a region can be mended together."""
    return all(worth is not None for _, worth in pieces_by_hand(room, cases, names))


def with_present_odds(room, replaced):
    """A room in which these parts, given by their names, have these present odds."""
    found = []
    for number, observer in enumerate(room.observers):
        odds = list(observer.odds)
        for name, part in parts_by_hand(room).items():
            if name[0] == number and name in replaced:
                whole = sum(exact(odds[case]) for case in part)
                for case, pair in zip(part, replaced[name]):
                    odds[case] = pair_of(exact(pair) * whole)
        found.append(Observer(observer.labels, tuple(odds)))
    return room_with(*found, cases=room.cases)


def observer_of(line):
    """An Observer, written as a line of point 110."""
    odds = {}
    labels = {}
    for label, part in enumerate(line.split(" | ")):
        for entry in part.split(" "):
            case, value = entry.split(":")
            odds[int(case)] = pair_of(Fraction(value))
            labels[int(case)] = label
    cases = range(len(odds))
    return Observer(tuple(labels[case] for case in cases), tuple(odds[case] for case in cases))


def room_of(*lines, cases=None):
    return room_with(*[observer_of(line) for line in lines], cases=cases)


def observer_state(observer):
    """All that may differ between two observers."""
    return (
        observer.labels, observer.parts, observer.odds,
        getattr(observer, "weights", None), getattr(observer, "reports", None),
    )


def state(room):
    """All that may differ between two rooms."""
    return room.cases, room.regions, [(id(observer), observer_state(observer)) for observer in room.observers]


def within(function, room, **keywords):
    """The function for this room, which must stay as it was."""
    def asked(*arguments):
        before = state(room)
        try:
            return function(room, *arguments, **keywords)
        finally:
            assert state(room) == before, "the room was changed"
    asked.__name__ = function.__name__
    return asked


def about(room, method):
    """The method of this room, which must stay as it was."""
    def asked(room, *arguments):
        return getattr(room, method)(*arguments)
    asked.__name__ = method
    return within(asked, room)


def numbers(seed):
    """An endless row of numbers, always the same for the same seed."""
    while True:
        seed = (seed * 1103515245 + 12345) & 0x7FFFFFFF
        yield seed >> 12


def some_labels(source, many):
    labels = [0]
    for _ in range(many - 1):
        labels.append(next(source) % min(max(labels) + 2, 4))
    return tuple(labels)


def nearly_of_one_mind(seed, count, *, cases=7, observers=4, others=3):
    """Rooms whose observers have their odds of one distribution, but for up to so many cases of observers."""
    source = numbers(seed)
    for room in some_rooms(seed, count, of_one_mind=True, cases=cases, observers=observers):
        found = list(room.observers)
        for _ in range(next(source) % (others + 1)):
            number = next(source) % len(found)
            weights = [exact(pair) for pair in found[number].odds]
            weights[next(source) % len(weights)] *= next(source) % 2 + 2
            labels = found[number].labels
            sums = [sum(weights[case] for case in part) for part in found[number].parts]
            found[number] = Observer(labels, tuple(pair_of(worth / sums[label]) for worth, label in zip(weights, labels)))
        yield room_with(*found, cases=room.cases)


def weighed(labels, weights, kind=Observer):
    """An observer of this class with odds in the ratio of these weights."""
    if kind in (Believer, Diarist):
        return kind(labels, tuple(weights))
    sums = {}
    for label, weight in zip(labels, weights):
        sums[label] = sums.get(label, 0) + weight
    return kind(labels, tuple(pair_of(Fraction(weight, sums[label])) for label, weight in zip(labels, weights)))


def some_rooms(seed, count, *, of_one_mind=False, cases=7, observers=4):
    """Rooms of 1 to so many cases and observers, of all classes, some with absent cases.

    The observers have their odds of one distribution, or each of its own.
    """
    source = numbers(seed)
    for _ in range(count):
        many = next(source) % cases + 1
        weights = [next(source) % 3 + 1 for _ in range(many)]
        found = []
        for _ in range(next(source) % observers + 1):
            if not of_one_mind:
                weights = [next(source) % 2 + 1 for _ in range(many)]
            found.append(weighed(some_labels(source, many), weights, CLASSES[next(source) % 4]))
        present = tuple(case for case in range(many) if next(source) % 4 > 0)
        yield room_with(*found, cases=present or (many - 1,))


def subsets(cases):
    """All events of these cases."""
    return [event for size in range(len(cases) + 1) for event in itertools.combinations(cases, size)]


def not_events(many):
    """Values that are no events of so many cases."""
    return tuple(value for value in OTHER_KINDS if value != ()) + (
        0,
        many,
        (many,),
        (0, many),
        tuple(range(many + 1)),
        (10 ** 12,),
        (-1,),
        (-1, 0),
        (-many,),
        (0, 0),
        (many - 1, many - 1),
        (many - 1, -1),
        (1, 0),
        tuple(reversed(range(many + 1))),
        (True,),
        (False,),
        (0, True),
        (False, 1),
        (0, None),
        (0, "1"),
        (0, (1,)),
        ([0],),
        [],
        [0],
        list(range(many)),
        {0: 1},
        "0",
    )


# The rooms of point 1.
AGREED = room_of("0:1/2 1:1/2 | 2:1", "0:1 | 1:1/3 2:2/3")
QUARREL = room_of("0:1/2 1:1/2 | 2:1", "0:1 | 1:1/3 2:2/3", "0:1/2 2:1/2 | 1:1")

# Its regions are (0, 2), (1,) and (3, 4, 5); only the last one has no source.
SEVERAL = room_of(
    "0:1/3 2:2/3 | 1:1 | 3:1/2 4:1/2 | 5:1",
    "0:1/3 2:2/3 | 1:1 | 3:1/4 4:3/4 | 5:1",
    "0:1 | 1:1 | 2:1 | 3:1 | 4:2/5 5:3/5",
)

# Without the case 2 its regions are (0, 3) and (1,), and both have a source; with it there is one, without.
REDUCED = room_of(
    "0:1/6 2:1/2 3:1/3 | 1:1",
    "0:1 | 1:1/4 2:3/4 | 3:1",
    "0:1 | 1:1 | 2:1/2 3:1/2",
    cases=(0, 1, 3),
)

# Without the case 3 the present odds are those of QUARREL.
HIDDEN = room_of(
    "0:1/4 1:1/4 3:1/2 | 2:1",
    "0:1/2 3:1/2 | 1:1/3 2:2/3",
    "0:1/2 2:1/2 | 1:1 | 3:1",
    cases=(0, 1, 2),
)

SAMPLES = (AGREED, QUARREL, SEVERAL, REDUCED, HIDDEN)

# None of these is the number of a region or an observer of a room with at most three of them.
NOT_NUMBERS = (
    -1, 3, 10 ** 12, True, False, None, "", "0", (), (0,), (0, 1), [], [0], {}, {0: 0}, ((0, 1),), [[0]], "a" * 600,
)
