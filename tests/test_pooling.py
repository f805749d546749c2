"""Tests of wagerroom.pooling: point 100."""

import itertools
import unittest

from tests.helper import OTHER_KINDS, PromiseCase
from tests.scenery import (
    AGREED, CLASSES, QUARREL, REDUCED, SAMPLES, exact, numbers, observer_of, observer_state, pair_of, room_with,
    some_labels, some_rooms, state, weighed,
)
from wagerroom import pooling
from wagerroom.errors import InvalidRoomError, OddsDifferError, RoomError
from wagerroom.ledgers import Ledger
from wagerroom.observers import Believer, Diarist, Observer, Recorder
from wagerroom.pooling import merged, pooled
from wagerroom.rooms import Room
from wagerroom.sources import source

ONE = (1, 1)
HALF = (1, 2)


def of(function, *objects):
    """The function for these objects, which must stay as they were."""
    def asked():
        before = [told(value) for value in objects]
        try:
            return function(*objects)
        finally:
            assert [told(value) for value in objects] == before, "an argument was changed"
    asked.__name__ = function.__name__
    return asked


def told(value):
    if isinstance(value, Room):
        return state(value)
    return observer_state(value) if isinstance(value, Observer) else value


def pooled_by_hand(observers):
    """The labels and odds by the words of point 100, or the pair of cases on which they differ."""
    marks = list(zip(*[observer.labels for observer in observers]))
    firsts = list(dict.fromkeys(marks))
    labels = tuple(firsts.index(mark) for mark in marks)
    many = len(labels)
    for one, other in itertools.combinations(range(many), 2):
        if labels[one] == labels[other]:
            for left, right in itertools.combinations(observers, 2):
                if exact(left.odds[one]) * exact(right.odds[other]) != exact(left.odds[other]) * exact(right.odds[one]):
                    return (one, other)
    found = set()
    for observer in observers:
        odds = [exact(pair) for pair in observer.odds]
        found.add(tuple(
            pair_of(odds[case] / sum(odds[other] for other in range(many) if labels[other] == labels[case]))
            for case in range(many)
        ))
    assert len(found) == 1, "they must be the same for all"
    return labels, found.pop()


class PooledTest(PromiseCase):

    def is_pooled(self, observers):
        """The pooled observer is as by hand, or the error is."""
        wanted = pooled_by_hand(observers)
        if isinstance(wanted[0], int):
            self.differs(wanted, *observers)
            return False
        for _ in range(2):
            found = of(pooled, *observers)()
            self.assertIs(type(found), Observer)
            self.assert_alike((found.labels, found.odds), wanted)
        return True

    def differs(self, pair, *observers):
        for _ in range(2):
            with self.assertRaises(OddsDifferError) as caught:
                of(pooled, *observers)()
            self.assertIs(type(caught.exception), OddsDifferError)
            self.assert_alike((caught.exception.one, caught.exception.other), pair)

    def test_examples(self):
        found = pooled(*AGREED.observers)
        self.assert_alike((found.labels, found.odds), ((0, 1, 2), (ONE,) * 3))
        found = pooled(observer_of("0:1/6 1:1/3 2:1/2 | 3:1"), observer_of("0:1/3 1:2/3 | 2:1/5 3:4/5"))
        self.assert_alike((found.labels, found.odds), ((0, 0, 1, 2), ((1, 3), (2, 3), ONE, ONE)))
        self.assert_alike(found.parts, ((0, 1), (2,), (3,)))

    def test_one_observer_of_each_class(self):
        for kind in CLASSES:
            observer = weighed((0, 1, 0), (1, 2, 3), kind)
            found = of(pooled, observer)()
            self.assertIs(type(found), Observer)
            self.assertIsNot(found, observer)
            self.assertTrue(found.same_as(observer))
            found.odds = (HALF, ONE, HALF)
            self.assert_alike(observer.odds, ((1, 4), ONE, (3, 4)))

    def test_the_same_one_several_times(self):
        for kind in CLASSES:
            observer = weighed((0, 1, 0, 1), (1, 2, 3, 4), kind)
            for many in range(1, 7):
                self.assertTrue(of(pooled, *[observer] * many)().same_as(observer))
            self.assertTrue(self.is_pooled([observer, Observer.even((0,) * 4), observer]) is False)

    def test_all_classes_together(self):
        labels = ((0, 0, 1, 1), (0, 1, 1, 1), (0, 0, 0, 0), (0, 0, 1, 1))
        observers = [weighed(own, (1, 2, 3, 4), kind) for own, kind in zip(labels, CLASSES)]
        for order in itertools.permutations(observers):
            self.assertTrue(self.is_pooled(order))
        found = pooled(*observers)
        self.assert_alike((found.labels, found.odds), ((0, 1, 2, 2), (ONE, ONE, (3, 7), (4, 7))))

    def test_one_and_twelve_cases(self):
        self.assert_alike(pooled(Observer.even((0,)), Observer.even((0,))).odds, (ONE,))
        found = pooled(Observer.even((0,) * 12), Observer.even((0, 1) * 6))
        self.assert_alike((found.labels, found.odds), ((0, 1) * 6, ((1, 6),) * 12))

    def test_where_two_differ(self):
        even, other = observer_of("0:1/3 1:1/3 2:1/3"), observer_of("0:1/4 1:1/4 2:1/2")
        self.differs((0, 2), even, other)
        self.differs((0, 2), other, even)
        self.differs((0, 2), even, even, other)
        self.differs((0, 2), even, other, even)
        # The cases 0 and 1 do not lie in one part of all of them.
        self.differs((1, 2), even, other, observer_of("0:1 | 1:1/2 2:1/2"))
        self.is_pooled([even, other, observer_of("0:1/2 1:1/2 | 2:1")])
        self.differs((0, 1), even, observer_of("0:1/4 1:1/2 2:1/4"))

    def test_the_first_one_need_not_be_one_of_them(self):
        # The observers 1 and 2 differ on the cases 2 and 3 alone.
        first = Observer.even((0, 0, 1, 1, 1))
        second = weighed((0, 0, 1, 1, 1), (1, 1, 1, 1, 2))
        third = weighed((0, 0, 1, 1, 1), (1, 1, 1, 2, 2))
        self.differs((2, 4), first, second)
        self.differs((2, 3), first, second, third)
        self.differs((2, 3), second, third)
        self.differs((2, 3), second, first, third)

    def test_the_least_pair(self):
        one = weighed((0, 1, 0, 1, 0, 1), (1, 1, 1, 1, 2, 2))
        other = weighed((0, 1, 0, 1, 0, 1), (1, 1, 1, 1, 1, 1))
        self.differs((0, 4), one, other)
        # (1, 2) comes before (1, 3) and (2, 3), and (0, 4) before all of them.
        self.differs((1, 2), weighed((0, 1, 1, 1, 0), (1, 1, 2, 3, 1)), Observer.even((0, 1, 1, 1, 0)))
        self.differs((0, 4), weighed((0, 1, 1, 1, 0), (1, 1, 2, 3, 2)), Observer.even((0, 1, 1, 1, 0)))

    def test_many(self):
        counts = {True: 0, False: 0}
        source_of_numbers = numbers(121)
        for room in [*SAMPLES, *some_rooms(122, 80, observers=6), *some_rooms(123, 40, of_one_mind=True, cases=12)]:
            counts[self.is_pooled(room.observers)] += 1
        for _ in range(150):
            many = next(source_of_numbers) % 8 + 1
            weights = [next(source_of_numbers) % 3 + 1 for _ in range(many)]
            observers = []
            for _ in range(next(source_of_numbers) % 5 + 1):
                if next(source_of_numbers) % 3 == 0:
                    weights[next(source_of_numbers) % many] += 1
                labels = tuple(min(label, 1) for label in some_labels(source_of_numbers, many))
                observers.append(weighed(labels, weights, CLASSES[next(source_of_numbers) % 4]))
            counts[self.is_pooled(observers)] += 1
        self.assertGreater(min(counts.values()), 20)

    def test_rooms_do_not_matter(self):
        found = pooled(*REDUCED.observers)
        self.assert_alike(found.odds, (ONE,) * 4)
        room = room_with(observer_of("0:1/3 1:1/3 2:1/3"), cases=(0,))
        self.assert_alike(pooled(room.observers[0]).odds, ((1, 3),) * 3)

    def test_its_odds_are_those_of_the_source(self):
        for room in some_rooms(124, 30, of_one_mind=True):
            found = pooled(*room.observers)
            together = room_with(*room.observers[:3], found, cases=room.cases)
            for region in range(len(together.regions)):
                self.assertEqual(source(together, region)[0], "source")

    def test_odds_that_are_changed_later(self):
        observer = Believer((0, 0), (1, 1))
        found = pooled(observer)
        observer.weights = (1, 3)
        self.assert_alike(found.odds, (HALF, HALF))
        self.assert_alike(pooled(observer).odds, ((1, 4), (3, 4)))

    def test_wrong_observers(self):
        one, two = Observer.even((0,)), Observer.even((0, 0))
        self.refuses(InvalidRoomError, of(pooled))
        for many in (7, 8, 20):
            self.refuses(InvalidRoomError, of(pooled, *[two] * many))
        for given in ((one, two), (two, one), (two, two, one), (one, two, two)):
            self.refuses(InvalidRoomError, of(pooled, *given))
        for value in OTHER_KINDS + (0, 1, AGREED, Ledger(AGREED, 0), RoomError("none"), [two], (two, two), Observer):
            self.refuses(InvalidRoomError, of(pooled, value))
            self.refuses(InvalidRoomError, of(pooled, two, value))
            self.refuses(InvalidRoomError, of(pooled, value, two))

    def test_a_wrong_observer_comes_first(self):
        even, other = Observer.even((0, 0)), weighed((0, 0), (1, 2))
        self.refuses(InvalidRoomError, of(pooled, even, other, None))
        self.refuses(InvalidRoomError, of(pooled, even, other, Observer.even((0,))))
        self.refuses(InvalidRoomError, of(pooled, *[even, other] * 4))


class MergedTest(PromiseCase):

    def is_merged(self, *rooms):
        for _ in range(2):
            found = of(merged, *rooms)()
            self.assertIs(type(found), Room)
            wanted = [observer for room in rooms for observer in room.observers]
            self.assertEqual(len(found.observers), len(wanted))
            for kept, observer in zip(found.observers, wanted):
                self.assertIs(kept, observer)
            self.assert_alike(found.cases, tuple(range(len(wanted[0].labels))))
            self.assertTrue(found.same_as(Room(*wanted)))
            self.assertTrue(all(found is not room for room in rooms))

    def test_one_room(self):
        for room in [*SAMPLES, *some_rooms(125, 20, observers=6)]:
            self.is_merged(room)

    def test_several_rooms(self):
        self.is_merged(AGREED, QUARREL)
        self.is_merged(QUARREL, AGREED)
        self.is_merged(QUARREL, QUARREL)
        self.is_merged(AGREED, AGREED, AGREED)
        single = Room(Diarist((0, 0, 1), (1, 2, 3)))
        self.is_merged(*[single] * 6)
        self.is_merged(single, AGREED, Room(Recorder((0, 0, 0), ((1, 3),) * 3), Believer((0, 1, 2), (1, 1, 1))))

    def test_all_cases_are_present(self):
        for cases in ((0,), (1, 2), (2,)):
            self.is_merged(room_with(*AGREED.observers, cases=cases))
            self.is_merged(room_with(*AGREED.observers, cases=cases), room_with(*QUARREL.observers, cases=(0, 1)))
        self.is_merged(REDUCED, REDUCED)

    def test_the_present_cases_are_kept_apart(self):
        room = room_with(*AGREED.observers, cases=(0, 1))
        found = merged(room)
        found.cases = (2,)
        self.assert_alike((room.cases, room.regions), ((0, 1), ((0, 1),)))
        room.cases = (1,)
        self.assert_alike((found.cases, found.regions), ((2,), ((2,),)))

    def test_the_observers_are_shared(self):
        believer = Believer((0, 0), (1, 1))
        found = merged(Room(believer), Room(Observer.even((0, 0))))
        believer.weights = (1, 3)
        self.assert_alike(found.present_odds(0), ((1, 4), (3, 4)))
        self.assertEqual(source(found, 0)[0], "walk")

    def test_wrong_rooms(self):
        self.refuses(InvalidRoomError, of(merged))
        others = OTHER_KINDS + (
            0, Observer.even((0, 0, 0)), AGREED.observers, [AGREED], (AGREED,), AGREED.text(), Ledger(AGREED, 0),
            RoomError("none"), Room,
        )
        for value in others:
            self.refuses(InvalidRoomError, of(merged, value))
            self.refuses(InvalidRoomError, of(merged, AGREED, value))
            self.refuses(InvalidRoomError, of(merged, value, AGREED))

    def test_too_many_observers(self):
        self.refuses(InvalidRoomError, of(merged, QUARREL, QUARREL, Room(AGREED.observers[0])))
        self.refuses(InvalidRoomError, of(merged, *[AGREED] * 4))
        self.refuses(InvalidRoomError, of(merged, *[Room(Observer.even((0,)))] * 7))

    def test_different_numbers_of_cases(self):
        two, three = Room(Observer.even((0, 0))), Room(Observer.even((0, 0, 0)))
        for given in ((two, three), (three, two), (three, AGREED, two)):
            self.refuses(InvalidRoomError, of(merged, *given))


class PoolingTogetherTest(PromiseCase):

    def test_a_merged_room_pools_as_its_rooms(self):
        for room in some_rooms(126, 20, of_one_mind=True, observers=3):
            both = merged(room, room)
            self.assertTrue(pooled(*both.observers).same_as(pooled(*room.observers)))
            self.assert_alike(source(both, 0), source(room_with(*room.observers), 0))


class PoolingInterfaceTest(PromiseCase):

    def test_names_and_parameters(self):
        self.has_interface(pooling, {"pooled": "(*observers)", "merged": "(*rooms)"})


if __name__ == "__main__":
    unittest.main()
