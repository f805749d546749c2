"""Tests of wagerroom.beliefs: point 80."""

import itertools
import unittest
from fractions import Fraction

from tests.helper import OTHER_KINDS, PromiseCase
from tests.scenery import (
    AGREED, CLASSES, HIDDEN, QUARREL, REDUCED, SAMPLES, SEVERAL, exact, not_events, pair_of, room_of, room_with,
    some_rooms, subsets, weighed, within,
)
from wagerroom import beliefs
from wagerroom.beliefs import common, is_steady, steady
from wagerroom.errors import InvalidEventError, InvalidFractionError
from wagerroom.observers import Believer, Observer
from wagerroom.ratios import is_valid_fraction
from wagerroom.rooms import Room
from wagerroom.sources import source

ONE = (1, 1)
HALF = (1, 2)

BOUNDS = (ONE, HALF, (1, 3), (2, 3), (1, 5), (3, 4), (999, 1000), (1, 1000))

WRONG_BOUNDS = tuple(value for value in OTHER_KINDS if not is_valid_fraction(value)) + (
    0, 1, (0, 1), (-1, 1), (-1, 2), (-1000, 1), (2, 1), (3, 2), (1001, 1000), (1000, 1), (2, 4), (2, 2), (0, 2),
    (1, 0), (1, -1), (-1, -1), (1, -2), (True, 1), (1, True), (True, 2), (1, 1, 1), (1,), [1, 1], [1, 2], "1/2", "1",
)


def odds_by_hand(room, number, event):
    """The observer's present odds of the event at each present case."""
    labels = room.observers[number].labels
    odds = dict(zip(room.cases, map(exact, room.present_odds(number))))
    return {
        case: sum(odds[other] for other in room.cases if labels[other] == labels[case] and other in event)
        for case in room.cases
    }


def is_steady_by_hand(room, cases, p):
    return all(
        odds_by_hand(room, number, cases)[case] >= exact(p) for number in range(len(room.observers)) for case in cases
    )


def steady_sets_by_hand(room, p):
    return [cases for cases in subsets(room.cases) if is_steady_by_hand(room, cases, p)]


def sure_by_hand(room, event, p):
    """The present cases at which each observer's odds of the event are at least p."""
    odds = [odds_by_hand(room, number, event) for number in range(len(room.observers))]
    return [case for case in room.cases if all(found[case] >= exact(p) for found in odds)]


def largest(sets):
    found = max(sets, key=len)
    # Two p-steady sets together are one, so all others lie in the largest one.
    assert all(set(cases) <= set(found) for cases in sets)
    return found


def small_rooms():
    return [*SAMPLES, *some_rooms(81, 30, cases=6), *some_rooms(82, 15, of_one_mind=True, cases=6)]


def events_of(room):
    return subsets(range(len(room.observers[0].labels)))


class IsSteadyTest(PromiseCase):

    def test_examples(self):
        asked = within(is_steady, AGREED)
        self.gives(True, asked, (0,), HALF)
        self.gives(False, asked, (0,), (501, 1000))
        self.gives(False, asked, (0, 1), HALF)
        self.gives(True, asked, (0, 1), (1, 3))
        self.gives(False, asked, (0, 1), (167, 500))
        self.gives(True, asked, (2,), (2, 3))
        self.gives(False, asked, (2,), (667, 1000))
        self.gives(True, asked, (0, 1, 2), ONE)
        self.gives(True, asked, (0, 2), HALF)
        self.gives(False, asked, (0, 2), (501, 1000))

    def test_the_empty_event(self):
        for room in SAMPLES:
            for p in BOUNDS:
                self.gives(True, within(is_steady, room), (), p)

    def test_all_present_cases_and_regions(self):
        for room in SAMPLES:
            self.gives(True, within(is_steady, room), room.cases, ONE)
            for cases in room.regions:
                self.gives(True, within(is_steady, room), cases, ONE)

    def test_at_the_very_bound(self):
        for top in range(1, 1000, 83):
            odds = (top, 1000)
            if not is_valid_fraction(odds):
                continue
            room = Room(Observer((0, 0), (odds, (1000 - top, 1000))))
            self.gives(True, within(is_steady, room), (0,), odds)
            if is_valid_fraction((top + 1, 1000)):
                self.gives(False, within(is_steady, room), (0,), (top + 1, 1000))
            self.gives(False, within(is_steady, room), (0,), pair_of(Fraction(top + 1, 1000)))
            self.gives(True, within(is_steady, room), (1,), pair_of(Fraction(1000 - top, 1000)))
            if top > 1:
                self.gives(True, within(is_steady, room), (0,), pair_of(Fraction(top - 1, 1000)))

    def test_each_observer_counts(self):
        room = room_of("0:9/10 1:1/10", "0:1/2 1:1/2", "0:9/10 1:1/10")
        self.gives(False, within(is_steady, room), (0,), (3, 5))
        self.gives(True, within(is_steady, room.only(0, 2)), (0,), (3, 5))

    def test_compared_with_the_words_of_the_point(self):
        counts = {True: 0, False: 0}
        for room in small_rooms():
            for cases in subsets(room.cases):
                for p in BOUNDS[:5]:
                    wanted = is_steady_by_hand(room, cases, p)
                    counts[wanted] += 1
                    self.gives(wanted, within(is_steady, room), cases, p)
        self.assertGreater(min(counts.values()), 200)

    def test_cases_that_are_not_present(self):
        self.refuses(InvalidEventError, within(is_steady, REDUCED), (2,), HALF)
        self.refuses(InvalidEventError, within(is_steady, REDUCED), (0, 2, 3), HALF)
        self.refuses(InvalidEventError, within(is_steady, HIDDEN), (0, 1, 2, 3), HALF)
        self.gives(True, within(is_steady, REDUCED), (0, 3), ONE)
        self.gives(True, within(is_steady, room_with(*REDUCED.observers)), (0, 1, 2, 3), ONE)


class SteadyTest(PromiseCase):

    def test_the_examples_of_the_point(self):
        self.gives((0,), within(steady, AGREED), (0, 1), HALF)
        self.gives((0, 1), within(steady, AGREED), (0, 1), (1, 3))

    def test_one_doubt_leads_to_another(self):
        # Of the event (0, 1, 2, 3) the case 3 is doubted first, then 2, then 1, and then 0.
        room = room_of("0:1/2 1:1/2 | 2:1/2 3:1/2 | 4:1", "0:1 | 1:1/2 2:1/2 | 3:1/3 4:2/3")
        self.gives((), within(steady, room), (0, 1, 2, 3), (501, 1000))
        self.gives((0, 1, 2), within(steady, room), (0, 1, 2, 3), HALF)
        self.gives((0, 1, 2, 3), within(steady, room), (0, 1, 2, 3), (1, 3))

    def test_the_empty_event_and_all_cases(self):
        for room in SAMPLES:
            for p in BOUNDS:
                self.gives((), within(steady, room), (), p)
                self.gives(room.cases, within(steady, room), tuple(range(len(room.observers[0].labels))), p)

    def test_compared_with_a_plain_search(self):
        sizes = set()
        for room in small_rooms():
            for p in BOUNDS[:5]:
                sets = steady_sets_by_hand(room, p)
                for event in events_of(room)[::2]:
                    wanted = largest([cases for cases in sets if set(cases) <= set(event)])
                    sizes.add(len(wanted))
                    self.gives(wanted, within(steady, room), event, p)
                    self.assertTrue(is_steady(room, wanted, p))
        self.assertTrue({0, 1, 2, 3, 4} <= sizes)

    def test_cases_that_are_not_present(self):
        for room in (REDUCED, HIDDEN):
            for event in events_of(room):
                inside = tuple(case for case in event if case in room.cases)
                for p in BOUNDS:
                    self.gives(steady(room, inside, p), within(steady, room), event, p)
                    self.gives(common(room, inside, p), within(common, room), event, p)


class CommonTest(PromiseCase):

    def test_examples(self):
        self.gives((0,), within(common, AGREED), (0,), HALF)
        self.gives((), within(common, AGREED), (0,), (501, 1000))
        self.gives((0, 1), within(common, AGREED), (0, 1), (1, 3))
        self.gives((1, 2), within(common, AGREED), (1, 2), HALF)
        self.gives((2,), within(common, AGREED), (1, 2), (501, 1000))
        self.gives((), within(common, AGREED), (), (1, 1000))
        self.gives((0, 1, 2), within(common, AGREED), (0, 1, 2), ONE)

    def test_it_need_not_lie_in_the_event(self):
        room = room_of("0:1/4 1:3/4", "0:1/4 1:3/4")
        self.gives((0, 1), within(common, room), (1,), (3, 4))
        self.gives((1,), within(steady, room), (1,), (3, 4))

    def test_compared_with_a_plain_search(self):
        sizes = set()
        for room in small_rooms():
            for p in BOUNDS[:5]:
                sets = steady_sets_by_hand(room, p)
                for event in events_of(room)[::2]:
                    sure = sure_by_hand(room, event, p)
                    wanted = largest([cases for cases in sets if set(cases) <= set(sure)])
                    sizes.add(len(wanted))
                    self.gives(wanted, within(common, room), event, p)
        self.assertTrue({0, 1, 2, 3, 4} <= sizes)

    def test_observers_agree_nearly(self):
        """The words in parentheses about regions with a source."""
        found = 0
        for room in some_rooms(83, 40, of_one_mind=True, cases=6):
            for p in (HALF, (1, 3), (2, 3)):
                for cases in steady_sets_by_hand(room, p):
                    if not any(set(cases) <= set(region) for region in room.regions) or not cases:
                        continue
                    for event in events_of(room)[::7]:
                        odds = [odds_by_hand(room, number, event) for number in range(len(room.observers))]
                        told = [{seen[case] for case in cases} for seen in odds]
                        same = [seen.pop() for seen in told if len(seen) == 1]
                        for one, other in itertools.combinations(same, 2):
                            found += one != other
                            self.assertLessEqual(abs(one - other), 1 - exact(p))
        self.assertGreater(found, 20)


class BeliefsTogetherTest(PromiseCase):

    FUNCTIONS = (is_steady, steady, common)

    def test_wrong_events(self):
        for room in (AGREED, REDUCED, SEVERAL):
            for event in not_events(len(room.observers[0].labels)):
                for function in self.FUNCTIONS:
                    self.refuses(InvalidEventError, within(function, room), event, HALF)

    def test_wrong_bounds(self):
        for p in WRONG_BOUNDS:
            for event in ((), (0,), (0, 1)):
                for room in (AGREED, REDUCED):
                    for function in self.FUNCTIONS:
                        self.refuses(InvalidFractionError, within(function, room), event, p)
            self.refuses(InvalidFractionError, within(steady, REDUCED), (2,), p)
            self.refuses(InvalidFractionError, within(common, REDUCED), (2,), p)

    def test_the_event_comes_first(self):
        for p in WRONG_BOUNDS:
            for event in (None, (0, 0), (4,), (True,), [0]):
                for function in self.FUNCTIONS:
                    self.refuses(InvalidEventError, within(function, REDUCED), event, p)
            self.refuses(InvalidEventError, within(is_steady, REDUCED), (2,), p)

    def test_answers_follow_the_odds_and_the_present_cases(self):
        observer = Believer((0, 0, 0), (1, 1, 2))
        room = Room(observer)
        self.gives((), within(steady, room), (0, 1), (2, 3))
        observer.weights = (1, 1, 1)
        self.gives((0, 1), within(steady, room), (0, 1), (2, 3))
        self.gives((0, 1, 2), within(common, room), (0, 1), (2, 3))
        self.gives(False, within(is_steady, room), (0,), HALF)
        room.cases = (0, 1)
        self.gives(True, within(is_steady, room), (0,), HALF)
        self.gives((0, 1), within(common, room), (0, 2), HALF)

    def test_observers_of_all_classes(self):
        labels = ((0, 0, 1), (0, 1, 1), (0, 1, 0), (0, 0, 0))
        room = Room(*[weighed(own, (1, 2, 3), kind) for own, kind in zip(labels, CLASSES)])
        for event in subsets(range(3)):
            for p in BOUNDS:
                self.gives(is_steady_by_hand(room, event, p), within(is_steady, room), event, p)

    def test_large_fractions_that_were_returned(self):
        odds = source(Room(Observer((0, 0), ((1, 10 ** 40), (10 ** 40 - 1, 10 ** 40)))), 0)[1]
        room = Room(Observer((0, 0), odds))
        self.gives((0,), within(steady, room), (0,), odds[0])
        self.gives((), within(steady, room), (0,), pair_of(2 * exact(odds[0])))
        self.gives((1,), within(steady, room), (1,), odds[1])

    def test_quarrels_do_not_matter(self):
        self.gives((0, 1, 2), within(common, QUARREL), (0, 1, 2), ONE)
        self.gives((), within(steady, QUARREL), (0, 1), (501, 1000))


class BeliefsInterfaceTest(PromiseCase):

    def test_names_and_parameters(self):
        self.has_interface(beliefs, {
            "is_steady": "(room, cases, p)",
            "steady": "(room, event, p)",
            "common": "(room, event, p)",
        })


if __name__ == "__main__":
    unittest.main()
