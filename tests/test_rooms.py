"""Tests of wagerroom.rooms: points 22 and 40 to 43, but for the texts of rooms."""

import inspect
import itertools
import unittest
from fractions import Fraction

from tests.helper import OTHER_KINDS, PromiseCase
from tests.scenery import (
    AGREED, CLASSES, HIDDEN, NOT_NUMBERS, QUARREL, REDUCED, SAMPLES, SEVERAL, about, are_linked, exact, not_events,
    numbers, observer_of, observer_state, pair_of, present_odds_by_hand, regions_by_hand, room_of, room_with,
    some_labels, some_rooms, state, subsets, weighed, within,
)
from wagerroom import rooms
from wagerroom.errors import (
    EmptyEventError, InvalidEventError, InvalidGroupError, InvalidQuestionError, InvalidRegionError, InvalidRoomError,
    RoomError,
)
from wagerroom.ledgers import Ledger
from wagerroom.observers import Believer, Diarist, Observer, Recorder
from wagerroom.rooms import Room
from wagerroom.sources import source
from wagerroom.wagers import wager

ONE = (1, 1)
HALF = (1, 2)

ALL_CLASSES = (
    Observer((0, 0, 1), (HALF, HALF, ONE)),
    Believer((0, 1, 1), (1, 1, 2)),
    Recorder((0, 1, 0), ((1, 3), ONE, (2, 3))),
    Diarist((0, 0, 0), (1, 1, 2)),
)


def named(function, name):
    function.__name__ = name
    return function


def making(*observers):
    """A function that makes a room of these observers."""
    return named(lambda: Room(*observers), "Room")


def assigning(room):
    def assign(value):
        room.cases = value
    return named(assign, "assign_cases_by_the_attribute")


class RoomCase(PromiseCase):

    def stays(self, room, error, function, *arguments):
        """The call raises this error and the room stays as it was."""
        before = state(room)
        self.refuses(error, function, *arguments)
        self.assert_alike(state(room), before, "after the error")


class ConstructorTest(RoomCase):
    """Point 40."""

    def test_one_observer_of_each_class(self):
        for observer in ALL_CLASSES:
            room = Room(observer)
            self.assertIs(type(room.observers), tuple)
            self.assertEqual(len(room.observers), 1)
            self.assertIs(room.observers[0], observer)
            self.assert_alike(room.cases, (0, 1, 2))

    def test_six_observers_of_all_classes(self):
        given = ALL_CLASSES + ALL_CLASSES[1:3]
        room = Room(*given)
        self.assertEqual(len(room.observers), 6)
        for kept, observer in zip(room.observers, given):
            self.assertIs(kept, observer)
        self.assert_alike(room.regions, ((0, 1, 2),))

    def test_one_object_several_times(self):
        for observer in ALL_CLASSES:
            for many in range(1, 7):
                room = Room(*[observer] * many)
                self.assertEqual(len(room.observers), many)
                self.assertTrue(all(kept is observer for kept in room.observers))

    def test_one_and_twelve_cases(self):
        self.assert_alike(Room(Observer.even((0,))).cases, (0,))
        self.assert_alike(Room(*[Observer.even((0,) * 12)] * 6).cases, tuple(range(12)))

    def test_too_few_and_too_many(self):
        self.refuses(InvalidRoomError, making())
        for many in (7, 8, 20):
            self.refuses(InvalidRoomError, making(*[ALL_CLASSES[0]] * many))
            self.refuses(InvalidRoomError, making(*[Observer.even((0,))] * many))

    def test_values_that_are_no_observers(self):
        others = OTHER_KINDS + (
            0, 1, (0, 0, 1), "3 cases\n0:1 | 1:1 | 2:1", RoomError("none"), AGREED, Ledger(AGREED, 0),
            [ALL_CLASSES[0]], ALL_CLASSES,
        )
        for value in others:
            self.refuses(InvalidRoomError, making(value))
            self.refuses(InvalidRoomError, making(ALL_CLASSES[0], value))
            self.refuses(InvalidRoomError, making(value, ALL_CLASSES[0], ALL_CLASSES[1]))
        self.refuses(InvalidRoomError, making(Observer))

    def test_different_numbers_of_cases(self):
        two, three = Observer.even((0, 0)), Observer.even((0, 0, 0))
        for given in ((two, three), (three, two), (two, two, three), (three, two, three), (two,) * 5 + (three,)):
            self.refuses(InvalidRoomError, making(*given))
        self.refuses(InvalidRoomError, making(Diarist((0, 0), (1, 1)), three))

    def test_most_observers(self):
        self.assert_alike(Room.MOST_OBSERVERS, 6)
        self.assert_alike(AGREED.MOST_OBSERVERS, 6)

    def test_odds_that_are_changed_later(self):
        for kind in CLASSES:
            observer = weighed((0, 0), (1, 1), kind)
            room = Room(observer, Observer((0, 0), (HALF, HALF)))
            self.assertEqual(source(room, 0), ("source", (HALF, HALF)))
            observer.odds = ((1, 4), (3, 4))
            self.gives(((1, 4), (3, 4)), about(room, "present_odds"), 0)
            self.gives((HALF, HALF), about(room, "present_odds"), 1)
            self.assertEqual(source(room, 0)[0], "walk")
            self.assertEqual(room.text(), "2 cases\n0:1/4 1:3/4\n0:1/2 1:1/2")
            self.assertEqual(room.supposed((), "source", 0)[0], "walk")
            self.assertFalse(room.same_as(Room(room.observers[1], room.observers[1])))
            observer.assign_odds((HALF, HALF))
            self.assertEqual(source(room, 0), ("source", (HALF, HALF)))
            self.assertTrue(room.same_as(Room(room.observers[1], room.observers[1])))

    def test_weights_that_are_changed_later(self):
        for kind in (Believer, Diarist):
            observer = kind((0, 0), (1, 1))
            room = Room(observer, observer)
            observer.weights = (1, 3)
            for number in range(2):
                self.gives(((1, 4), (3, 4)), about(room, "present_odds"), number)
            self.gives(("source", ((1, 4), (3, 4))), within(source, room), 0)
            observer.assign_weights((2, 1))
            self.gives(("source", ((2, 3), (1, 3))), within(source, room), 0)

    def test_a_room_changes_no_observer(self):
        for room in some_rooms(31, 20):
            before = [observer_state(observer) for observer in room.observers]
            room.cases = room.cases[:1]
            room.only(0).cases = (0,)
            room.supposed((room.cases,), "source", 0)
            room.text()
            self.assert_alike([observer_state(observer) for observer in room.observers], before)


class CasesTest(RoomCase):
    """Point 41: the present cases and the regions."""

    def test_all_cases_are_present_at_first(self):
        for many in range(1, 13):
            self.assert_alike(Room(Observer.even((0,) * many)).cases, tuple(range(many)))

    def test_each_event_can_be_assigned(self):
        room = Room(*ALL_CLASSES)
        for event in subsets(range(3))[1:] * 2:
            room.cases = event
            self.assert_alike(room.cases, event)
            self.assert_alike(room.regions, regions_by_hand(room))
        for event in subsets(range(3))[1:]:
            self.gives(None, room.assign_cases, event)
            self.assert_alike(room.cases, event)
            self.assert_alike(room.regions, regions_by_hand(room))

    def test_cases_that_were_not_present(self):
        room = room_of("0:1/2 1:1/2 | 2:1 | 3:1")
        for event in ((0,), (1, 2), (3,), (0, 3), (0, 1, 2, 3), (2,), (0, 1, 2, 3)):
            room.cases = event
            self.assert_alike(room.cases, event)
        room.assign_cases((1,))
        room.assign_cases((0, 2))
        self.assert_alike(room.cases, (0, 2))

    def test_wrong_events(self):
        for many in (1, 3, 12):
            room = Room(Observer.even((0,) * many))
            for cases in (room.cases, (many - 1,)):
                room.cases = cases
                for event in ((),) + not_events(many):
                    self.stays(room, InvalidEventError, assigning(room), event)
                    self.stays(room, InvalidEventError, room.assign_cases, event)

    def test_examples_of_regions(self):
        self.assert_alike(AGREED.regions, ((0, 1, 2),))
        self.assert_alike(SEVERAL.regions, ((0, 2), (1,), (3, 4, 5)))
        self.assert_alike(REDUCED.regions, ((0, 3), (1,)))
        self.assert_alike(room_with(*REDUCED.observers).regions, ((0, 1, 2, 3),))
        self.assert_alike(Room(Observer.even(tuple(range(12)))).regions, tuple((case,) for case in range(12)))
        self.assert_alike(Room(Observer.even((0,) * 12)).regions, (tuple(range(12)),))

    def test_regions_are_ordered_by_their_least_present_cases(self):
        room = room_of("0:1/2 5:1/2 | 1:1/2 4:1/2 | 2:1/2 3:1/2")
        self.assert_alike(room.regions, ((0, 5), (1, 4), (2, 3)))
        room.cases = (1, 2, 3, 4, 5)
        self.assert_alike(room.regions, ((1, 4), (2, 3), (5,)))
        room.cases = (2, 3, 4, 5)
        self.assert_alike(room.regions, ((2, 3), (4,), (5,)))
        room.cases = (3, 5)
        self.assert_alike(room.regions, ((3,), (5,)))

    def test_a_chain_of_links(self):
        # Each observer links two neighbours; without a case in between the chain falls apart.
        lines = []
        for case in range(6):
            others = [f"{other}:1" for other in range(7) if other not in (case, case + 1)]
            lines.append(" | ".join(others[:case] + [f"{case}:1/2 {case + 1}:1/2"] + others[case:]))
        room = room_of(*lines)
        self.assert_alike(room.regions, ((0, 1, 2, 3, 4, 5, 6),))
        room.cases = (0, 1, 2, 4, 5, 6)
        self.assert_alike(room.regions, ((0, 1, 2), (4, 5, 6)))
        room.cases = (0, 2, 4, 6)
        self.assert_alike(room.regions, ((0,), (2,), (4,), (6,)))

    def test_regions_of_many_rooms(self):
        for room in some_rooms(32, 60, cases=12, observers=3):
            self.assert_alike(room.regions, regions_by_hand(room))
            for region in room.regions:
                for case, other in itertools.product(region, room.cases):
                    self.assertTrue(other in region or not are_linked(room, case, other))
            room.cases = tuple(range(len(room.observers[0].labels)))
            self.assert_alike(room.regions, regions_by_hand(room))

    def test_asking_changes_nothing(self):
        for room in SAMPLES:
            before = state(room)
            for _ in range(2):
                self.assert_alike((room.cases, room.regions, room.observers), (room.cases, room.regions, room.observers))
            self.assert_alike(state(room), before)


class PresentOddsTest(RoomCase):
    """Point 42: observers and present_odds."""

    def test_all_cases_present(self):
        for number, observer in enumerate(QUARREL.observers):
            self.gives(observer.odds, about(QUARREL, "present_odds"), number)

    def test_some_cases_present(self):
        self.gives(((1, 3), ONE, (2, 3)), about(REDUCED, "present_odds"), 0)
        self.gives((ONE, ONE, ONE), about(REDUCED, "present_odds"), 1)
        self.gives((ONE, ONE, ONE), about(REDUCED, "present_odds"), 2)
        self.gives((HALF, HALF, ONE), about(HIDDEN, "present_odds"), 0)
        self.gives((ONE, (1, 3), (2, 3)), about(HIDDEN, "present_odds"), 1)

    def test_of_all_classes(self):
        room = room_with(*ALL_CLASSES, cases=(0, 2))
        for number, wanted in enumerate(((ONE, ONE), (ONE, ONE), ((1, 3), (2, 3)), ((1, 3), (2, 3)))):
            self.gives(wanted, about(room, "present_odds"), number)

    def test_many_rooms(self):
        for room in some_rooms(33, 60, cases=12, observers=6):
            for number in range(len(room.observers)):
                self.gives(present_odds_by_hand(room, number), about(room, "present_odds"), number)

    def test_numbers_that_name_no_observer(self):
        for room in (AGREED, QUARREL, REDUCED):
            for value in NOT_NUMBERS + (len(room.observers), -len(room.observers), (0,), [0], 10 ** 12):
                self.stays(room, InvalidGroupError, room.present_odds, value)
        for value in OTHER_KINDS:
            self.stays(AGREED, InvalidGroupError, AGREED.present_odds, value)


class OnlyTest(RoomCase):
    """Point 42: only."""

    def test_the_numbers_in_any_order(self):
        room = room_with(*ALL_CLASSES, cases=(0, 2))
        for many in range(1, 5):
            for given in itertools.permutations(range(4), many):
                before = state(room)
                found = room.only(*given)
                self.assert_alike(state(room), before)
                self.assertIs(type(found), Room)
                self.assertIsNot(found, room)
                self.assert_alike(found.cases, (0, 2))
                self.assertEqual(len(found.observers), many)
                for number, observer in zip(given, found.observers):
                    self.assertIs(observer, ALL_CLASSES[number])
                self.assert_alike(found.regions, regions_by_hand(found))

    def test_the_present_cases_are_kept_apart(self):
        room = room_with(*ALL_CLASSES, cases=(0, 2))
        found = room.only(0, 3)
        found.cases = (1,)
        self.assert_alike((room.cases, room.regions), ((0, 2), ((0, 2),)))
        room.assign_cases((0, 1))
        self.assert_alike((found.cases, found.regions), ((1,), ((1,),)))
        self.assert_alike((room.cases, room.regions), ((0, 1), ((0, 1),)))

    def test_the_observers_are_shared(self):
        one, other = Observer.even((0, 0)), Believer((0, 0), (1, 1))
        room = Room(one, other)
        found = room.only(1)
        other.weights = (1, 2)
        self.gives(((1, 3), (2, 3)), about(found, "present_odds"), 0)
        found.observers[0].odds = ((1, 5), (4, 5))
        self.gives(((1, 5), (4, 5)), about(room, "present_odds"), 1)

    def test_calling_twice_gives_two_rooms(self):
        room = Room(*ALL_CLASSES)
        one, other = room.only(0, 1), room.only(0, 1)
        self.assertTrue(one.same_as(other))
        one.cases = (0,)
        self.assert_alike(other.cases, (0, 1, 2))

    def test_wrong_numbers(self):
        room = room_with(*ALL_CLASSES, cases=(0, 2))
        wrong = [(), (0, 0), (1, 0, 1), (0, 1, 2, 3, 0), (4,), (0, 4), (-1,), (0, -1), (True,), (0, True), (False,),
                 (False, 1), (0, 10 ** 12), ((0, 1),), ([0],)]
        wrong += [(value,) for value in OTHER_KINDS] + [(0, value) for value in OTHER_KINDS]
        wrong += [(value, 0, 0) for value in OTHER_KINDS]
        for given in wrong:
            self.stays(room, InvalidGroupError, room.only, *given)


class SameAsTest(RoomCase):
    """Point 42: same_as."""

    def same(self, wanted, one, other):
        for left, right in ((one, other), (other, one)):
            before = state(left), state(right)
            self.assert_alike(left.same_as(right), wanted)
            self.assert_alike(left.same_as(right), wanted)
            self.assert_alike((state(left), state(right)), before)

    def test_itself_and_its_like(self):
        for room in SAMPLES:
            self.same(True, room, room)
            self.same(True, room, room_with(*room.observers, cases=room.cases))
            twins = [Observer(observer.labels, observer.odds) for observer in room.observers]
            self.same(True, room, room_with(*twins, cases=room.cases))
            self.same(True, room, room.only(*range(len(room.observers))))

    def test_classes_do_not_matter(self):
        for one, other in itertools.product(CLASSES, repeat=2):
            self.same(True, Room(weighed((0, 0), (1, 2), one)), Room(weighed((0, 0), (1, 2), other)))
            self.same(False, Room(weighed((0, 0), (1, 2), one)), Room(weighed((0, 0), (2, 1), other)))

    def test_other_present_cases(self):
        for cases in ((0,), (1, 2), (2,)):
            self.same(False, AGREED, room_with(*AGREED.observers, cases=cases))
            self.same(True, room_with(*AGREED.observers, cases=cases), room_with(*AGREED.observers, cases=cases))

    def test_other_odds_in_an_absent_case(self):
        # The present odds are equal, the observers are not.
        one = room_of("0:1/4 1:1/4 2:1/2", cases=(0, 1))
        other = room_of("0:1/3 1:1/3 2:1/3", cases=(0, 1))
        self.same(False, one, other)

    def test_another_order_and_another_observer(self):
        first, second, third = QUARREL.observers
        self.same(False, QUARREL, Room(second, first, third))
        self.same(False, QUARREL, Room(first, second, first))
        self.same(False, QUARREL, Room(first, second))
        self.same(False, QUARREL, Room(second, third))
        self.same(False, QUARREL, Room(first, second, third, third))
        self.same(False, QUARREL, Room(first, first, second, third))
        self.same(False, QUARREL, Room(first, second, Observer(third.labels, ((1, 3), ONE, (2, 3)))))

    def test_other_numbers_of_cases(self):
        small, large = Observer.even((0, 0)), Observer.even((0, 0, 1))
        self.same(False, Room(small), Room(large))
        self.same(False, Room(small), room_with(large, cases=(0, 1)))

    def test_other_values(self):
        for room in (AGREED, REDUCED):
            for value in OTHER_KINDS + (0, 1, room.text(), room.cases, (room.cases, room.regions)):
                self.gives(False, about(room, "same_as"), value)

    def test_other_objects(self):
        observer = Observer.even((0, 0))
        room = Room(observer)
        for value in (observer, RoomError("no room"), Ledger(room, 0), Believer((0, 0), (1, 1)), Room, [room], (room,)):
            self.assert_alike(room.same_as(value), False)
            self.assert_alike(room.same_as(value), False)


def reduced(room, events):
    return tuple(case for case in room.cases if all(case in event for event in events))


class SupposedTest(RoomCase):
    """Point 43."""

    QUESTIONS = (("cases", 0), ("regions", 0), ("present_odds", 1), ("source", 1), ("wager", 1))

    def asked_by_hand(self, room, events, question, *arguments):
        """The answer of a room of its own in which only the remaining cases are present."""
        left = room_with(*room.observers, cases=reduced(room, events))
        if question in ("cases", "regions"):
            return getattr(left, question)
        if question == "present_odds":
            return left.present_odds(*arguments)
        return {"source": source, "wager": wager}[question](left, *arguments)

    def test_no_event(self):
        for room in SAMPLES:
            supposed = about(room, "supposed")
            self.gives(room.cases, supposed, (), "cases")
            self.gives(room.regions, supposed, (), "regions")
            for number in range(len(room.observers)):
                self.gives(room.present_odds(number), supposed, (), "present_odds", number)
            for region in range(len(room.regions)):
                self.gives(source(room, region), supposed, (), "source", region)
                self.gives(wager(room, region), supposed, (), "wager", region)

    def test_examples(self):
        supposed = about(QUARREL, "supposed")
        self.gives((0, 1), supposed, ((0, 1),), "cases")
        self.gives((1,), supposed, ((0, 1), (1, 2)), "cases")
        self.gives(((1,), (2,)), about(AGREED.only(0), "supposed"), ((1, 2),), "regions")
        self.gives(((0, 1),), supposed, ((0, 1),), "regions")
        self.gives((ONE, ONE), supposed, ((0, 2),), "present_odds", 0)
        self.gives((HALF, HALF), supposed, ((0, 2),), "present_odds", 2)
        self.gives(("source", (HALF, HALF)), supposed, ((0, 1),), "source", 0)
        self.gives(None, supposed, ((0, 1),), "wager", 0)
        self.gives("walk", lambda: QUARREL.supposed(((0, 1, 2),), "source", 0)[0])
        self.gives((((-14, 1), (16, 1), (1, 1)), ((1, 1), (-17, 1), (10, 1)), ((13, 1), (1, 1), (-11, 1))),
                   supposed, ((0, 1, 2), (0, 1, 2)), "wager", 0)

    def test_cases_that_are_not_present(self):
        supposed = about(REDUCED, "supposed")
        self.gives((0, 3), supposed, ((0, 2, 3),), "cases")
        self.gives((3,), supposed, ((2, 3), (0, 1, 2, 3)), "cases")
        self.gives((ONE,), supposed, ((2, 3),), "present_odds", 0)
        self.refuses(EmptyEventError, supposed, ((2,),), "cases")

    def test_one_event_after_the_other(self):
        for room in some_rooms(34, 12, cases=5):
            supposed = about(room, "supposed")
            events = subsets(range(len(room.observers[0].labels)))
            for one, other in itertools.islice(itertools.product(events, repeat=2), 0, None, 11):
                for given in ((one,), (one, other), (one, other, one)):
                    left = reduced(room, given)
                    if not left:
                        self.refuses(EmptyEventError, supposed, given, "cases")
                        continue
                    for question, many in self.QUESTIONS:
                        arguments = (0,) * many
                        wanted = self.asked_by_hand(room, given, question, *arguments)
                        self.gives(wanted, supposed, given, question, *arguments)

    def test_the_present_cases_are_as_before(self):
        room = room_with(*QUARREL.observers, cases=(0, 2))
        for events in ((), ((0,),), ((0, 1), (0,)), ((1,),), ((5,),), None):
            for question, many in self.QUESTIONS + (("text", 0), ("source", 0), ("present_odds", 2)):
                for argument in (0, 5, None):
                    before = state(room)
                    try:
                        room.supposed(events, question, *[argument] * many)
                    except RoomError:
                        pass
                    self.assert_alike(state(room), before)
        self.assert_alike(room.cases, (0, 2))

    def test_wrong_events(self):
        room = room_with(*QUARREL.observers, cases=(0, 2))
        for event in not_events(3):
            for events in ((event,), ((0,), event), (event, (0,)), ((), event)):
                self.stays(room, InvalidEventError, room.supposed, events, "cases")
        # Three of the other kinds are tuples of events.
        others = [value for value in OTHER_KINDS if value not in ((), ((0, 1),), ((0, 1), (1, 2)))]
        for events in others + [0, [(0, 1)], ((0, 1), 0), (0, 1), [], {}]:
            self.stays(room, InvalidEventError, room.supposed, events, "cases")

    def test_wrong_questions(self):
        room = room_with(*QUARREL.observers, cases=(0, 2))
        questions = OTHER_KINDS + (
            0, "Cases", "case", "cases ", " cases", "cases\n", "region", "present odds", "odds", "text", "observers",
            "shortest_walk", "certifies", "only", "source()", ("cases",), ["cases"], {"cases": 0}, "casesregions",
        )
        for question in questions:
            for arguments in ((), (0,), (0, 0)):
                self.stays(room, InvalidQuestionError, room.supposed, ((0,),), question, *arguments)

    def test_wrong_numbers_of_arguments(self):
        room = room_with(*QUARREL.observers, cases=(0, 2))
        for question, many in self.QUESTIONS:
            for wrong in (0, 1, 2, 3):
                if wrong != many:
                    for argument in (0, None):
                        given = (argument,) * wrong
                        self.stays(room, InvalidQuestionError, room.supposed, (), question, *given)

    def test_no_case_remains(self):
        room = room_with(*QUARREL.observers, cases=(0, 2))
        for events in (((),), ((1,),), ((0,), (2,)), ((0, 1), (1, 2)), ((), (0,)), ((0, 1, 2), ())):
            for question, many in self.QUESTIONS:
                self.stays(room, EmptyEventError, room.supposed, events, question, *(0,) * many)

    def test_errors_of_the_questions(self):
        room = room_with(*QUARREL.observers, cases=(0, 2))
        for value in OTHER_KINDS + (-1, 3, True, 10 ** 12):
            self.stays(room, InvalidGroupError, room.supposed, ((0,),), "present_odds", value)
            self.stays(room, InvalidRegionError, room.supposed, ((0,),), "source", value)
            self.stays(room, InvalidRegionError, room.supposed, ((0,),), "wager", value)
        # The number of a region of the reduced room counts.
        self.stays(room, InvalidRegionError, room.supposed, ((0,),), "source", 1)
        several = room_with(*AGREED.observers)
        self.gives(("source", (ONE,)), about(several, "supposed"), ((0, 2),), "source", 1)
        self.stays(several, InvalidRegionError, several.supposed, ((0, 1, 2),), "source", 1)

    def test_the_order_of_the_errors(self):
        room = room_with(*QUARREL.observers, cases=(0, 2))
        supposed = room.supposed
        for events in (((3,),), None, ((1,), (0, 0)), ((), (True,))):
            for given in (("text",), ("cases", 0), ("source",), ("source", None), ("cases",), (None,)):
                self.stays(room, InvalidEventError, supposed, events, *given)
        for events in (((),), ((1,),), ((0,), (2,))):
            for given in (("text",), ("cases", 0), ("source",), ("source", None, None), (None,), ("wager",)):
                self.stays(room, InvalidQuestionError, supposed, events, *given)
            for question in ("present_odds", "source", "wager"):
                for value in (None, -1, True, 7):
                    self.stays(room, EmptyEventError, supposed, events, question, value)

    def test_values_of_any_kind(self):
        for value in OTHER_KINDS:
            self.refuses(InvalidEventError, AGREED.supposed, (value, (0, 0)), value, value)
            self.refuses(InvalidQuestionError, AGREED.supposed, (), value, value)
            self.refuses(InvalidQuestionError, AGREED.supposed, (), "cases", value)

    def test_suppositions_in_turn(self):
        # Supposing one event after the other is the same as reducing the cases for good.
        source_of_numbers = numbers(35)
        for room in some_rooms(36, 30):
            many = len(room.observers[0].labels)
            events = [tuple(case for case in range(many) if next(source_of_numbers) % 5 > 0) for _ in range(3)]
            events = tuple(event for event in events if reduced(room, events))
            wanted = {
                question: self.asked_by_hand(room, events, question, *(0,) * number)
                for question, number in self.QUESTIONS
            }
            for question, number in self.QUESTIONS:
                self.gives(wanted[question], about(room, "supposed"), events, question, *(0,) * number)


class CommonTest(RoomCase):
    """Points 3 and 41: what connects the members."""

    def test_present_odds_add_up_in_each_part(self):
        source_of_numbers = numbers(37)
        for _ in range(30):
            many = next(source_of_numbers) % 12 + 1
            labels = some_labels(source_of_numbers, many)
            observer = weighed(labels, [next(source_of_numbers) % 9 + 1 for _ in labels])
            cases = tuple(case for case in range(many) if next(source_of_numbers) % 3) or (0,)
            odds = room_with(observer, cases=cases).present_odds(0)
            for part in observer.parts:
                inside = [exact(pair) for case, pair in zip(cases, odds) if case in part]
                self.assertIn(sum(inside), (0, 1) if not inside else (1,))
                kept = [exact(observer.odds[case]) for case in part if case in cases]
                self.assertEqual([worth / sum(kept) for worth in kept], inside)

    def test_returned_values_can_be_passed_back(self):
        for room in some_rooms(38, 20):
            room.cases = room.cases
            for region in room.regions:
                twin = room.only(*range(len(room.observers)))
                twin.cases = region
                self.assert_alike(twin.regions, (region,))
                self.assert_alike(room.supposed((region,), "cases"), region)
                self.assert_alike(room.supposed(room.regions[:1], "regions"), room.regions[:1])

    def test_a_reduced_region_has_the_source_in_proportion(self):
        for room in some_rooms(39, 30, of_one_mind=True):
            for number, cases in enumerate(room.regions):
                worth = dict(zip(cases, map(exact, source(room, number)[1])))
                for event in subsets(cases)[1::3]:
                    regions = room.supposed((event,), "regions")
                    for part, left in enumerate(regions):
                        whole = sum(worth[case] for case in left)
                        wanted = tuple(pair_of(Fraction(worth[case], whole)) for case in left)
                        self.assert_alike(room.supposed((event,), "source", part), ("source", wanted))


class RoomsInterfaceTest(PromiseCase):

    def test_room_stands_in_its_file(self):
        self.assertEqual(Room.__module__, rooms.__name__)
        self.assertEqual(str(inspect.signature(Room)), "(*observers)")

    def test_methods_stand_in_the_class(self):
        wanted = {
            "__init__": "(self, *observers)",
            "text": "(self)",
            "assign_cases": "(self, event)",
            "present_odds": "(self, number)",
            "only": "(self, *numbers)",
            "supposed": "(self, events, question, *arguments)",
            "same_as": "(self, other)",
        }
        for name, parameters in wanted.items():
            self.assertEqual(str(inspect.signature(vars(Room)[name])), parameters)
        self.assertIsInstance(vars(Room)["read"], classmethod)
        self.assertEqual(str(inspect.signature(Room.read)), "(text)")

    def test_attributes_are_there_from_the_beginning(self):
        room = Room(observer_of("0:1"))
        for name in ("observers", "cases", "regions"):
            self.assertTrue(hasattr(room, name), name)


if __name__ == "__main__":
    unittest.main()
