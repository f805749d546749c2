"""Tests of wagerroom.faults: points 91 and 92."""

import itertools
import unittest

from tests.helper import OTHER_KINDS, PromiseCase
from tests.scenery import (
    AGREED, CLASSES, HIDDEN, NOT_NUMBERS, QUARREL, REDUCED, SAMPLES, SEVERAL, can_be_mended_by_hand, exact,
    nearly_of_one_mind, observer_of, pair_of, parts_by_hand, pieces_by_hand, room_of, room_with, some_rooms, weighed,
    with_present_odds, within,
)
from wagerroom import faults as module
from wagerroom.errors import InvalidCaseError, InvalidGroupError, InvalidRegionError, OutOfRangeError
from wagerroom.faults import faults, fewest_faults, mended
from wagerroom.observers import Believer, Observer
from wagerroom.rooms import Room
from wagerroom.sources import certifies, source

ONE = (1, 1)
HALF = (1, 2)

# The observer 0 has one part; the links of the others leave the pieces (0, 1), (2, 4) and (3,).
PIECES = room_of(
    "0:1/5 1:1/5 2:1/5 3:1/5 4:1/5",
    "0:1/3 1:2/3 | 2:1/4 4:3/4 | 3:1",
    "0:1 | 1:1 | 2:1/4 4:3/4 | 3:1",
)

# Two parts must be mended: the observers 0 and 1 each disagree with the three others about one pair.
TWO = room_of(*["0:1/3 1:2/3 | 2:1/2 3:1/2", "0:1/2 1:1/2 | 2:1/3 3:2/3"] + ["0:1/2 1:1/2 | 2:1/2 3:1/2"] * 3,
              "0:1 | 1:1/2 2:1/2 | 3:1")

# Three parts must be mended.
THREE = room_of("0:1/2 1:1/2", "0:1/3 1:2/3", "0:1/4 1:3/4", "0:1/5 1:4/5")
FOUR = room_of("0:1/2 1:1/2", "0:1/3 1:2/3", "0:1/4 1:3/4", "0:1/5 1:4/5", "0:1/6 1:5/6")


def rooms():
    return [
        *SAMPLES, PIECES, TWO, THREE, FOUR, *some_rooms(101, 80), *some_rooms(102, 20, of_one_mind=True),
        *nearly_of_one_mind(103, 80), *nearly_of_one_mind(104, 10, cases=12, observers=6),
    ]


def region_of(room, case):
    return next((number, cases) for number, cases in enumerate(room.regions) if case in cases)


def mended_by_hand(room, name):
    """The fractions by the words of point 91, or None."""
    _, cases = region_of(room, name[1])
    part = parts_by_hand(room)[name]
    weights = {}
    for piece, worth in pieces_by_hand(room, cases, (name,)):
        inside = [case for case in part if case in piece]
        assert inside, "each piece contains a case of the part"
        if worth is None:
            return None
        weights.update({case: worth[case] / worth[inside[0]] for case in inside})
    return tuple(pair_of(weights[case] / sum(weights.values())) for case in part)


def fewest_by_hand(room, cases, most):
    """The answer of fewest_faults, found by trying all tuples of parts."""
    names = sorted(name for name, part in parts_by_hand(room).items() if part[0] in cases)
    for many in range(most + 1):
        for chosen in itertools.combinations(names, many):
            if can_be_mended_by_hand(room, cases, chosen):
                return chosen
    return None


class MendedTest(PromiseCase):

    def test_the_example(self):
        self.gives(("odds", ((1, 3), (2, 3))), within(mended, QUARREL), 2, 0)
        told, walk = self.call(within(mended, QUARREL), 0, 2)
        self.assertEqual(told, "walk")
        self.is_bad_outside(QUARREL, (0, 2), walk)

    def is_bad_outside(self, room, name, walk):
        region, _ = region_of(room, name[1])
        part = parts_by_hand(room)[name]
        self.assert_alike(certifies(room, region, ("walk", walk)), True)
        for number, case, after in walk:
            self.assertFalse(number == name[0] and case in part and after in part)

    def test_each_part_of_many_rooms(self):
        counts = {"odds": 0, "walk": 0, "other odds": 0, "pieces": 0}
        for room in rooms():
            for name, part in parts_by_hand(room).items():
                wanted = mended_by_hand(room, name)
                told, found = self.call(within(mended, room), *name)
                counts[told] += 1
                if wanted is None:
                    self.assertEqual(told, "walk")
                    self.is_bad_outside(room, name, found)
                else:
                    self.assert_alike((told, found), ("odds", wanted))
                    region, cases = region_of(room, name[1])
                    again = with_present_odds(room, {name: found})
                    self.assertEqual(source(again, region)[0], "source")
                    counts["other odds"] += source(room, region)[0] == "source" and again.text() != room.text()
                    counts["pieces"] += len(pieces_by_hand(room, cases, (name,))) > 1
        self.assertGreater(min(counts.values()), 30, counts)

    def test_several_pieces(self):
        self.gives(("odds", ((1, 8), (1, 4), (1, 8), (1, 8), (3, 8))), within(mended, PIECES), 0, 0)
        # Both of the others disagree with the observer 0 about 2 and 4.
        for name in ((1, 0), (1, 2), (2, 2), (2, 0)):
            self.assertEqual(mended(PIECES, *name)[0], "walk")

    def test_where_there_is_a_source_every_part_can_be_mended(self):
        for room in [AGREED, REDUCED, *some_rooms(105, 20, of_one_mind=True)]:
            for name in parts_by_hand(room):
                self.assertEqual(mended(room, *name)[0], "odds")
        # Perhaps with other odds: nobody else links the cases of this part.
        room = room_of("0:1/5 1:4/5")
        self.gives(("odds", (HALF, HALF)), within(mended, room), 0, 0)

    def test_a_part_of_one_case(self):
        self.gives(("odds", (ONE,)), within(mended, AGREED), 0, 2)
        self.gives(("odds", (ONE,)), within(mended, room_of("0:1")), 0, 0)
        self.assertEqual(mended(QUARREL, 1, 0)[0], "walk")

    def test_absent_cases(self):
        self.gives(("odds", (HALF, HALF)), within(mended, REDUCED), 0, 0)
        self.gives(("odds", (ONE,)), within(mended, REDUCED), 1, 3)
        self.gives(("odds", (ONE,)), within(mended, REDUCED), 2, 3)
        # Without the case 0 the parts (0, 3) and (0, 2) are named by other cases.
        room = room_with(*QUARREL.observers, cases=(1, 2))
        self.gives(("odds", (ONE,)), within(mended, room), 0, 1)
        self.gives(("odds", (ONE,)), within(mended, room), 2, 2)
        self.refuses(InvalidCaseError, within(mended, room), 2, 0)
        self.gives(("odds", ((1, 3), (2, 3))), within(mended, HIDDEN), 2, 0)

    def test_observers_of_all_classes(self):
        labels = ((0, 0, 1), (0, 1, 1), (0, 1, 0), (0, 0, 0))
        room = Room(*[weighed(own, (1, 2, 3), kind) for own, kind in zip(labels, CLASSES)])
        self.gives(("odds", ((1, 3), (2, 3))), within(mended, room), 0, 0)
        self.gives(("odds", ((1, 6), (1, 3), HALF)), within(mended, room), 3, 0)

    def test_wrong_observers(self):
        for room in (AGREED, QUARREL, REDUCED):
            for value in NOT_NUMBERS + OTHER_KINDS + (len(room.observers), -len(room.observers)):
                for case in (0, 1, 2, -1, None, True, (0,)):
                    self.refuses(InvalidGroupError, within(mended, room), value, case)

    def test_wrong_cases(self):
        for value in OTHER_KINDS + (-1, 3, 10 ** 12, (0,), 1.0):
            for number in range(3):
                self.refuses(InvalidCaseError, within(mended, QUARREL), number, value)
        for room in rooms()[:60]:
            names = parts_by_hand(room)
            for number in range(len(room.observers)):
                for case in range(-1, len(room.observers[0].labels) + 1):
                    if (number, case) not in names:
                        self.refuses(InvalidCaseError, within(mended, room), number, case)
        # A case that is present but not the least of its part, one that is not present, and bools.
        self.refuses(InvalidCaseError, within(mended, QUARREL), 0, 1)
        self.refuses(InvalidCaseError, within(mended, REDUCED), 0, 2)
        self.refuses(InvalidCaseError, within(mended, REDUCED), 0, 3)
        self.refuses(InvalidCaseError, within(mended, QUARREL), 0, False)
        self.refuses(InvalidCaseError, within(mended, QUARREL), 1, True)


class FaultsTest(PromiseCase):

    def test_the_example(self):
        self.gives(((0, 0), (1, 1), (2, 0)), within(faults, QUARREL), 0)

    def test_regions(self):
        self.gives(((0, 0), (1, 0), (2, 0), (2, 2)), within(faults, SEVERAL), 0)
        self.gives(((0, 1), (1, 1), (2, 1)), within(faults, SEVERAL), 1)
        self.gives(((0, 3), (1, 3)), within(faults, SEVERAL), 2)
        self.gives((), within(faults, TWO), 0)

    def test_order_of_the_least_present_cases(self):
        room = room_of("0:1/2 3:1/2 | 1:1/2 2:1/2", "0:1/4 1:1/4 2:1/4 3:1/4", cases=(1, 2, 3))
        self.gives(((0, 1), (0, 3), (1, 1)), within(faults, room), 0)

    def test_compared_with_the_parts_by_hand(self):
        sizes = set()
        for room in rooms():
            for region, cases in enumerate(room.regions):
                wanted = tuple(sorted(
                    name for name, part in parts_by_hand(room).items()
                    if part[0] in cases and mended_by_hand(room, name) is not None
                ))
                self.gives(wanted, within(faults, room), region)
                for name in wanted:
                    self.assertEqual(mended(room, *name)[0], "odds")
                if source(room, region)[0] == "walk":
                    sizes.add(len(wanted))
        self.assertTrue({0, 1, 2, 3} <= sizes, sizes)

    def test_wrong_regions(self):
        for room in (AGREED, SEVERAL, REDUCED):
            for value in NOT_NUMBERS + OTHER_KINDS + (len(room.regions),):
                self.refuses(InvalidRegionError, within(faults, room), value)


class FewestFaultsTest(PromiseCase):

    def test_the_example(self):
        self.gives(((0, 0),), within(fewest_faults, QUARREL), 0, 3)
        self.gives(None, within(fewest_faults, QUARREL), 0, 0)

    def test_where_there_is_a_source(self):
        for room in [AGREED, REDUCED, *some_rooms(106, 15, of_one_mind=True)]:
            for region in range(len(room.regions)):
                for most in range(4):
                    self.gives((), within(fewest_faults, room), region, most)

    def test_two_three_and_four_parts(self):
        for room, wanted in (
            (TWO, ((0, 0), (1, 2))), (THREE, ((0, 0), (1, 0), (2, 0))), (FOUR, None),
        ):
            for most in range(4):
                enough = wanted is not None and len(wanted) <= most
                self.gives(wanted if enough else None, within(fewest_faults, room), 0, most)

    def test_several_regions(self):
        self.gives((), within(fewest_faults, SEVERAL), 0, 0)
        self.gives((), within(fewest_faults, SEVERAL), 1, 3)
        self.gives(((0, 3),), within(fewest_faults, SEVERAL), 2, 1)
        self.gives(None, within(fewest_faults, SEVERAL), 2, 0)

    def test_the_least_of_them(self):
        # Either the observer 0 or both others; and of two that disagree, the first one.
        room = room_of("0:1/3 1:2/3", "0:1/2 1:1/2", "0:1/2 1:1/2")
        self.gives(((0, 0),), within(fewest_faults, room), 0, 3)
        room = room_of("0:1/2 1:1/2", "0:1/2 1:1/2", "0:1/3 1:2/3")
        self.gives(((2, 0),), within(fewest_faults, room), 0, 3)
        room = room_of("0:1/2 1:1/2", "0:1/3 1:2/3")
        self.gives(((0, 0),), within(fewest_faults, room), 0, 1)

    def test_compared_with_all_tuples(self):
        sizes = {}
        for room in [*SAMPLES, PIECES, TWO, THREE, FOUR, *some_rooms(107, 80, cases=6), *nearly_of_one_mind(108, 80)]:
            for region, cases in enumerate(room.regions):
                for most in range(4):
                    wanted = fewest_by_hand(room, cases, most)
                    self.gives(wanted, within(fewest_faults, room), region, most)
                size = None if wanted is None else len(wanted)
                sizes[size] = sizes.get(size, 0) + 1
        self.assertGreater(sizes[0], 50)
        self.assertGreater(sizes[1], 20)
        self.assertGreater(sizes[2], 5)

    def test_many_observers(self):
        sizes = set()
        for room in nearly_of_one_mind(109, 12, cases=6, observers=6, others=5):
            for region, cases in enumerate(room.regions):
                wanted = fewest_by_hand(room, cases, 3)
                self.gives(wanted, within(fewest_faults, room), region, 3)
                sizes.add(None if wanted is None else len(wanted))
        self.assertTrue({2, 3} <= sizes, sizes)

    def test_their_odds_can_be_mended_together(self):
        found = 0
        for room in nearly_of_one_mind(110, 60, cases=8):
            for region, cases in enumerate(room.regions):
                names = fewest_faults(room, region, 3)
                if not names:
                    continue
                found += 1
                weights = {}
                for _, worth in pieces_by_hand(room, cases, names):
                    weights.update(worth)
                parts = {name: parts_by_hand(room)[name] for name in names}
                odds = {
                    name: tuple(pair_of(weights[case] / sum(weights[one] for one in part)) for case in part)
                    for name, part in parts.items()
                }
                self.assertEqual(source(with_present_odds(room, odds), region)[0], "source")
        self.assertGreater(found, 10)

    def test_one_fault_is_the_least_of_the_faults(self):
        for room in rooms():
            for region in range(len(room.regions)):
                if source(room, region)[0] == "walk":
                    single = faults(room, region)[:1]
                    self.gives(single or None, within(fewest_faults, room), region, 1)

    def test_wrong_numbers(self):
        for value in OTHER_KINDS + (-1, 4, 10 ** 12, -10 ** 12, True, False, (0,), "3", [1], 5):
            for room in (AGREED, QUARREL):
                self.refuses(OutOfRangeError, within(fewest_faults, room), 0, value)

    def test_the_region_comes_first(self):
        for room in (AGREED, SEVERAL, REDUCED):
            for region in NOT_NUMBERS + OTHER_KINDS + (len(room.regions),):
                for most in (0, 3, -1, 4, True, None):
                    self.refuses(InvalidRegionError, within(fewest_faults, room), region, most)


class FaultsTogetherTest(PromiseCase):

    def test_answers_follow_the_odds_and_the_present_cases(self):
        one, other = Believer((0, 0, 0), (1, 1, 1)), Believer((0, 0, 0), (1, 1, 2))
        room = Room(one, other, one)
        self.gives(((1, 0),), within(fewest_faults, room), 0, 3)
        self.gives(("odds", ((1, 3),) * 3), within(mended, room), 1, 0)
        one.weights = (1, 2, 3)
        self.gives(("odds", ((1, 6), (1, 3), HALF)), within(mended, room), 1, 0)
        one.weights = (2, 2, 1)
        room.cases = (0, 1)
        self.gives((), within(fewest_faults, room), 0, 3)
        self.gives(((0, 0), (1, 0), (2, 0)), within(faults, room), 0)
        room.cases = (1, 2)
        self.gives(("odds", ((2, 3), (1, 3))), within(mended, room), 1, 1)

    def test_large_odds(self):
        huge = 10 ** 40
        room = Room(Observer((0, 0), ((1, huge), (huge - 1, huge))), observer_of("0:1/2 1:1/2"))
        self.gives(("odds", ((1, huge), (huge - 1, huge))), within(mended, room), 1, 0)
        self.assertEqual(exact(mended(room, 0, 0)[1][0]), exact(HALF))


class FaultsInterfaceTest(PromiseCase):

    def test_names_and_parameters(self):
        self.has_interface(module, {
            "mended": "(room, observer, case)",
            "faults": "(room, region)",
            "fewest_faults": "(room, region, most)",
        })


if __name__ == "__main__":
    unittest.main()
