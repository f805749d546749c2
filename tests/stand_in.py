"""A stand-in for a room, and the means to make rooms for tests."""

from fractions import Fraction

from wagerroom.observers import Observer


def exact(pair):
    return Fraction(pair[0], pair[1])


def pair_of(value):
    value = Fraction(value)
    return (value.numerator, value.denominator)


class StandIn:
    """A room as points 40 to 42 describe it, with no members but those that a function may ask for."""

    def __init__(self, *observers, cases=None):
        self.observers = observers
        self.cases = tuple(range(len(observers[0].labels))) if cases is None else cases

    @property
    def regions(self):
        left = list(self.cases)
        found = []
        while left:
            region = [left.pop(0)]
            for case in region:
                linked = [other for other in left if self.are_linked(case, other)]
                region += linked
                left = [other for other in left if other not in linked]
            found.append(tuple(sorted(region)))
        return tuple(found)

    def are_linked(self, one, other):
        return any(observer.labels[one] == observer.labels[other] for observer in self.observers)

    def present_odds(self, number):
        labels = self.observers[number].labels
        odds = [exact(pair) for pair in self.observers[number].odds]
        return tuple(
            pair_of(odds[case] / sum(odds[other] for other in self.cases if labels[other] == labels[case]))
            for case in self.cases
        )


def observer_of(line):
    """An Observer, written as a line of point 110."""
    odds = {}
    labels = {}
    for label, part in enumerate(line.split(" | ")):
        for entry in part.split(" "):
            case, value = entry.split(":")
            odds[int(case)] = pair_of(Fraction(value))
            labels[int(case)] = label
    cases = range(len(odds))
    return Observer(tuple(labels[case] for case in cases), tuple(odds[case] for case in cases))


def room_of(*lines, cases=None):
    return StandIn(*[observer_of(line) for line in lines], cases=cases)


def state(room):
    """All that may differ between two rooms."""
    return room.cases, [(observer.labels, observer.odds) for observer in room.observers]


def within(function, room, **keywords):
    """The function for this room, which must stay as it was."""
    def asked(*arguments):
        before = state(room)
        try:
            return function(room, *arguments, **keywords)
        finally:
            assert state(room) == before, "the room was changed"
    asked.__name__ = function.__name__
    return asked


def numbers(seed):
    """An endless row of numbers, always the same for the same seed."""
    while True:
        seed = (seed * 1103515245 + 12345) & 0x7FFFFFFF
        yield seed >> 12


def some_labels(source, many):
    labels = [0]
    for _ in range(many - 1):
        labels.append(next(source) % min(max(labels) + 2, 4))
    return tuple(labels)


def weighed(labels, weights):
    """An Observer with odds in the ratio of these weights."""
    sums = {}
    for label, weight in zip(labels, weights):
        sums[label] = sums.get(label, 0) + weight
    return Observer(labels, tuple(pair_of(Fraction(weight, sums[label])) for label, weight in zip(labels, weights)))


def some_rooms(seed, count, *, of_one_mind=False):
    """Rooms of 1 to 7 cases and 1 to 4 observers, some with absent cases.

    The observers have their odds of one distribution, or each of its own.
    """
    source = numbers(seed)
    for _ in range(count):
        many = next(source) % 7 + 1
        weights = [next(source) % 3 + 1 for _ in range(many)]
        observers = []
        for _ in range(next(source) % 4 + 1):
            if not of_one_mind:
                weights = [next(source) % 2 + 1 for _ in range(many)]
            observers.append(weighed(some_labels(source, many), weights))
        cases = tuple(case for case in range(many) if next(source) % 4 > 0)
        yield StandIn(*observers, cases=cases or (many - 1,))


# The rooms of point 1.
AGREED = room_of("0:1/2 1:1/2 | 2:1", "0:1 | 1:1/3 2:2/3")
QUARREL = room_of("0:1/2 1:1/2 | 2:1", "0:1 | 1:1/3 2:2/3", "0:1/2 2:1/2 | 1:1")

# Its regions are (0, 2), (1,) and (3, 4, 5); only the last one has no source.
SEVERAL = room_of(
    "0:1/3 2:2/3 | 1:1 | 3:1/2 4:1/2 | 5:1",
    "0:1/3 2:2/3 | 1:1 | 3:1/4 4:3/4 | 5:1",
    "0:1 | 1:1 | 2:1 | 3:1 | 4:2/5 5:3/5",
)

# Without the case 2 its regions are (0, 3) and (1,), and both have a source; with it there is one, without.
REDUCED = room_of(
    "0:1/6 2:1/2 3:1/3 | 1:1",
    "0:1 | 1:1/4 2:3/4 | 3:1",
    "0:1 | 1:1 | 2:1/2 3:1/2",
    cases=(0, 1, 3),
)

# Without the case 3 the present odds are those of QUARREL.
HIDDEN = room_of(
    "0:1/4 1:1/4 3:1/2 | 2:1",
    "0:1/2 3:1/2 | 1:1/3 2:2/3",
    "0:1/2 2:1/2 | 1:1 | 3:1",
    cases=(0, 1, 2),
)

SAMPLES = (AGREED, QUARREL, SEVERAL, REDUCED, HIDDEN)

# None of these is the number of a region or an observer of a room with at most three of them.
NOT_NUMBERS = (
    -1, 3, 10 ** 12, True, False, None, "", "0", (), (0,), (0, 1), [], [0], {}, {0: 0}, ((0, 1),), [[0]], "a" * 600,
)
