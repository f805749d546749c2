"""Tests of wagerroom.groups: point 90."""

import itertools
import unittest

from tests.helper import OTHER_KINDS, PromiseCase
from tests.scenery import (
    AGREED, HIDDEN, NOT_NUMBERS, QUARREL, REDUCED, SAMPLES, SEVERAL, nearly_of_one_mind, observer_of, pieces_by_hand,
    regions_by_hand, room_of, room_with, some_rooms, subsets, weighed, within,
)
from wagerroom import groups
from wagerroom.errors import InvalidGroupError
from wagerroom.groups import in_harmony, largest_groups, least_quarrels
from wagerroom.observers import Believer
from wagerroom.rooms import Room
from wagerroom.sources import source


def in_harmony_by_hand(room, group):
    smaller = room_with(*[room.observers[number] for number in group], cases=room.cases)
    return all(
        worth is not None for cases in regions_by_hand(smaller) for _, worth in pieces_by_hand(smaller, cases)
    )


def groups_by_hand(room):
    """All groups, and whether they are in harmony."""
    everyone = tuple(range(len(room.observers)))
    return {group: in_harmony_by_hand(room, group) for group in subsets(everyone)[1:]}


def largest_by_hand(found):
    return tuple(sorted(
        group for group in found
        if found[group] and not any(found[other] and set(group) < set(other) for other in found)
    ))


def quarrels_by_hand(found):
    return tuple(sorted(
        group for group in found
        if not found[group] and all(found[other] for other in found if set(other) < set(group))
    ))


def rooms():
    return [
        *SAMPLES, *some_rooms(91, 60), *some_rooms(92, 15, of_one_mind=True),
        *nearly_of_one_mind(93, 60, observers=6), *some_rooms(94, 15, cases=12, observers=6),
    ]


class InHarmonyTest(PromiseCase):

    def test_the_example_of_point_92(self):
        for group, wanted in groups_by_hand(QUARREL).items():
            self.gives(wanted, within(in_harmony, QUARREL), *group)
        self.gives(False, within(in_harmony, QUARREL), 0, 1, 2)
        self.gives(True, within(in_harmony, QUARREL), 0, 2)

    def test_one_observer_is_in_harmony(self):
        for room in rooms():
            for number in range(len(room.observers)):
                self.gives(True, within(in_harmony, room), number)

    def test_all_groups_in_any_order(self):
        counts = {True: 0, False: 0}
        for room in rooms()[:90]:
            for group, wanted in groups_by_hand(room).items():
                counts[wanted] += 1
                for order in itertools.islice(itertools.permutations(group), 0, None, 4):
                    self.gives(wanted, within(in_harmony, room), *order)
                self.gives(wanted, within(in_harmony, room), *reversed(group))
        self.assertGreater(min(counts.values()), 50)

    def test_every_region_counts(self):
        self.gives(False, within(in_harmony, SEVERAL), 0, 1)
        self.gives(True, within(in_harmony, SEVERAL), 0, 2)
        fewer = room_with(*SEVERAL.observers, cases=(0, 1, 2))
        self.gives(True, within(in_harmony, fewer), 0, 1, 2)

    def test_the_same_present_cases(self):
        self.gives(True, within(in_harmony, REDUCED), 0, 1, 2)
        self.gives(False, within(in_harmony, room_with(*REDUCED.observers)), 0, 1, 2)
        self.gives(False, within(in_harmony, HIDDEN), 0, 1, 2)
        self.gives(True, within(in_harmony, HIDDEN), 0, 1)

    def test_it_is_as_the_sources_of_the_smaller_room(self):
        for room in some_rooms(95, 40):
            for group in groups_by_hand(room):
                smaller = room.only(*group)
                wanted = all(source(smaller, region)[0] == "source" for region in range(len(smaller.regions)))
                self.gives(wanted, within(in_harmony, room), *group)

    def test_wrong_numbers(self):
        for room in (AGREED, QUARREL, REDUCED):
            many = len(room.observers)
            wrong = [(), (0, 0), (0, 1, 0), (many,), (0, many), (-1,), (0, -1), (-many,), (True,), (False,), (0, True),
                     (False, 1), (10 ** 12,), ((0,),), ((0, 1),), ([0, 1],), tuple(range(many)) + (0,)]
            for value in NOT_NUMBERS + OTHER_KINDS:
                wrong += [(value,), (0, value), (value, 0)]
            for given in wrong:
                self.refuses(InvalidGroupError, within(in_harmony, room), *given)


class GroupsTest(PromiseCase):

    def test_the_example_of_point_92(self):
        self.gives(((0, 1), (0, 2), (1, 2)), within(largest_groups, QUARREL))
        self.gives(((0, 1, 2),), within(least_quarrels, QUARREL))

    def test_rooms_with_a_source_in_each_region(self):
        for room in [AGREED, REDUCED, *some_rooms(96, 20, of_one_mind=True)]:
            self.gives((tuple(range(len(room.observers))),), within(largest_groups, room))
            self.gives((), within(least_quarrels, room))

    def test_ascending_order(self):
        # The observers 0 and 2 are of one mind, and so are 1, 3 and 4.
        lines = ["0:1/2 1:1/2", "0:1/3 1:2/3"]
        room = room_of(*[lines[at] for at in (0, 1, 0, 1, 1)])
        self.gives(((0, 2), (1, 3, 4)), within(largest_groups, room))
        self.gives(((0, 1), (0, 3), (0, 4), (1, 2), (2, 3), (2, 4)), within(least_quarrels, room))
        # (0, 1, 2) comes before (0, 3).
        room = room_of(*[lines[0]] * 3, "0:1/3 1:2/3")
        self.gives(((0, 1, 2), (3,)), within(largest_groups, room))
        self.gives(((0, 3), (1, 3), (2, 3)), within(least_quarrels, room))
        room = room_of("0:1/2 1:1/2 | 2:1", "0:1 | 1:1/3 2:2/3", "0:1/2 2:1/2 | 1:1", "0:1 | 1:1 | 2:1",
                       "0:1/3 1:2/3 | 2:1")
        self.gives(((0, 1, 2), (0, 4), (1, 2, 4)), within(least_quarrels, room))
        self.gives(((0, 1, 3), (0, 2, 3), (1, 2, 3), (1, 3, 4), (2, 3, 4)), within(largest_groups, room))

    def test_compared_with_a_plain_search(self):
        sizes = set()
        for room in rooms():
            found = groups_by_hand(room)
            wanted = largest_by_hand(found)
            self.gives(wanted, within(largest_groups, room))
            quarrels = quarrels_by_hand(found)
            self.gives(quarrels, within(least_quarrels, room))
            sizes.update(map(len, quarrels))
        self.assertTrue({2, 3} <= sizes)

    def test_six_observers_who_all_quarrel(self):
        room = Room(*[Believer((0, 0), (1, number)) for number in range(1, 7)])
        self.gives(tuple((number,) for number in range(6)), within(largest_groups, room))
        self.gives(tuple(itertools.combinations(range(6), 2)), within(least_quarrels, room))

    def test_a_ring_in_which_all_are_needed(self):
        # Each observer links two neighbours, the last one the two ends.
        for many in range(2, 7):
            observers = []
            for case in range(many):
                pair = (case, (case + 1) % many)
                labels = [min(pair) if other in pair else other for other in range(many)]
                labels = tuple(sorted(set(labels)).index(label) for label in labels)
                observers.append(weighed(labels, [2 if other == case else 1 for other in range(many)]))
            room = Room(*observers)
            everyone = tuple(range(many))
            self.gives((everyone,), within(least_quarrels, room))
            self.gives(tuple(itertools.combinations(everyone, many - 1)), within(largest_groups, room))

    def test_one_observer(self):
        room = room_of("0:1/2 1:1/2")
        self.gives(((0,),), within(largest_groups, room))
        self.gives((), within(least_quarrels, room))

    def test_one_object_as_several_observers(self):
        observer = observer_of("0:1/2 1:1/2")
        self.gives(((0, 1, 2),), within(largest_groups, Room(observer, observer, observer)))

    def test_answers_follow_the_odds_and_the_present_cases(self):
        one, other = Believer((0, 0, 0), (1, 1, 1)), Believer((0, 0, 0), (1, 1, 2))
        room = Room(one, other)
        self.gives(((0, 1),), within(least_quarrels, room))
        room.cases = (0, 1)
        self.gives((), within(least_quarrels, room))
        self.gives(((0, 1),), within(largest_groups, room))
        one.weights = (1, 2, 3)
        self.gives(((0,), (1,)), within(largest_groups, room))


class GroupsInterfaceTest(PromiseCase):

    def test_names_and_parameters(self):
        self.has_interface(groups, {
            "in_harmony": "(room, *numbers)",
            "largest_groups": "(room)",
            "least_quarrels": "(room)",
        })


if __name__ == "__main__":
    unittest.main()
