"""Tests of wagerroom.wagers: points 60 and 61, and the rooms of point 1."""

import unittest
from fractions import Fraction

from tests.helper import OTHER_KINDS, PromiseCase
from tests.scenery import (
    AGREED, HIDDEN, NOT_NUMBERS, QUARREL, REDUCED, SAMPLES, SEVERAL, exact, numbers, observer_of, pair_of, room_of,
    room_with, some_rooms, within,
)
from wagerroom import wagers
from wagerroom.errors import InvalidAmountsError, InvalidFractionError, InvalidRegionError
from wagerroom.observers import Believer, Diarist, Observer, Recorder
from wagerroom.ratios import is_valid_fraction
from wagerroom.sources import source
from wagerroom.wagers import expected, is_wager, wager

ONE = (1, 1)
ZERO = (0, 1)
HUGE = 10 ** 40

GAINS = (ONE, (1, 2), (7, 3), (1000, 1), (1, 1000), (HUGE, HUGE - 1))

# The only wager of QUARREL.
ONLY = (((-14, 1), (16, 1), (1, 1)), ((1, 1), (-17, 1), (10, 1)), ((13, 1), (1, 1), (-11, 1)))

WRONG_GAINS = tuple(value for value in OTHER_KINDS if not is_valid_fraction(value) or value[0] <= 0) + (
    0,
    1,
    ZERO,
    (-1, 1),
    (-1, 2),
    (2, 4),
    (1, 0),
    (1, -1),
    (-1, -1),
    (0, 2),
    (True, 1),
    (1, True),
    [1, 1],
    (1, 1, 1),
    (1,),
    "1/1",
)


def rooms():
    """Rooms with regions with a source and without."""
    found = list(SAMPLES)
    found += some_rooms(11, 50)
    found += some_rooms(12, 20, of_one_mind=True)
    return found


def expected_by_hand(room, cases, amounts):
    """What each observer expects in its parts in the region, by the words of point 60."""
    found = []
    for number, observer in enumerate(room.observers):
        odds = dict(zip(room.cases, map(exact, room.present_odds(number))))
        row = dict(zip(cases, map(exact, amounts[number])))
        # In the order of the least present cases, which need not be that of all cases.
        labels = list(dict.fromkeys(observer.labels[case] for case in cases))
        found.append(tuple(
            pair_of(sum(odds[case] * row[case] for case in cases if observer.labels[case] == label))
            for label in labels
        ))
    return tuple(found)


def sums_of(amounts):
    return [sum(map(exact, column)) for column in zip(*amounts)]


class WagerTest(PromiseCase):
    """Points 60 and 61: wager."""

    def is_good(self, room, number, amounts, gain):
        cases = room.regions[number]
        self.assert_alike([type(row) for row in amounts], [tuple] * len(room.observers))
        self.assertIs(type(amounts), tuple)
        for row in amounts:
            self.assertEqual(len(row), len(cases))
            for amount in row:
                self.assertTrue(is_valid_fraction(amount))
        self.assertEqual(sums_of(amounts), [0] * len(cases))
        for row in expected_by_hand(room, cases, amounts):
            self.assert_alike(row, (gain,) * len(row))

    def test_the_rooms_of_point_1(self):
        self.gives(None, within(wager, AGREED), 0)
        self.gives(ONLY, within(wager, QUARREL), 0)
        self.gives(ONLY, within(wager, QUARREL, gain=ONE), 0)

    def test_the_only_wager_grows_with_the_gain(self):
        for gain in GAINS:
            wanted = tuple(tuple(pair_of(exact(amount) * exact(gain)) for amount in row) for row in ONLY)
            self.gives(wanted, within(wager, QUARREL, gain=gain), 0)

    def test_many_rooms(self):
        found = []
        for room in rooms():
            for number in range(len(room.regions)):
                for gain in GAINS:
                    amounts = self.call(within(wager, room, gain=gain), number)
                    found.append(amounts is None)
                    self.assertEqual(amounts is None, source(room, number)[0] == "source")
                    if amounts is not None:
                        self.is_good(room, number, amounts, gain)
        self.assertGreater(found.count(True), 100)
        self.assertGreater(found.count(False), 100)

    def test_gain_is_1_if_it_is_not_given(self):
        for room in rooms():
            for number in range(len(room.regions)):
                amounts = self.call(within(wager, room), number)
                if amounts is not None:
                    self.is_good(room, number, amounts, ONE)

    def test_present_odds_count(self):
        self.gives(ONLY, within(wager, HIDDEN), 0)
        self.gives(None, within(wager, REDUCED), 0)
        self.gives(None, within(wager, REDUCED), 1)
        whole = room_with(*REDUCED.observers)
        self.is_good(whole, 0, self.call(within(wager, whole), 0), ONE)

    def test_several_regions(self):
        self.gives(None, within(wager, SEVERAL), 0)
        self.gives(None, within(wager, SEVERAL), 1)
        self.is_good(SEVERAL, 2, self.call(within(wager, SEVERAL), 2), ONE)

    def test_one_object_as_several_observers(self):
        one = observer_of("0:1/2 1:1/2")
        room = room_with(one, one, observer_of("0:1/3 1:2/3"))
        self.is_good(room, 0, self.call(within(wager, room), 0), ONE)
        self.gives(None, within(wager, room_with(one, one)), 0)

    def test_twelve_cases_and_six_observers(self):
        source_of_numbers = numbers(8)
        observers = [
            Believer((0,) * 12, tuple(next(source_of_numbers) % 1000 + 1 for _ in range(12))) for _ in range(6)
        ]
        room = room_with(*observers)
        self.is_good(room, 0, self.call(within(wager, room), 0), ONE)

    def test_observers_of_all_classes(self):
        room = room_with(
            Believer((0, 0, 1), (1, 1, 5)),
            Recorder((0, 1, 1), (ONE, (1, 3), (2, 3))),
            Diarist((0, 1, 0), (3, 9, 3)),
        )
        self.gives(ONLY, within(wager, room), 0)

    def test_wrong_regions(self):
        for room in (AGREED, SEVERAL, REDUCED):
            for value in NOT_NUMBERS + (len(room.regions),):
                self.refuses(InvalidRegionError, within(wager, room), value)

    def test_wrong_gains(self):
        for gain in WRONG_GAINS:
            # Whether the region has a source does not matter.
            for room in (AGREED, QUARREL):
                self.refuses(InvalidFractionError, within(wager, room, gain=gain), 0)

    def test_the_region_comes_first(self):
        for gain in WRONG_GAINS:
            for region in (1, -1, True, None, "0"):
                self.refuses(InvalidRegionError, within(wager, AGREED, gain=gain), region)

    def test_gain_is_passed_by_keyword(self):
        with self.assertRaises(TypeError):
            wager(QUARREL, 0, ONE)


class IsWagerTest(PromiseCase):
    """Points 60 and 61: is_wager."""

    def test_the_wagers_of_wager(self):
        for room in rooms():
            for number in range(len(room.regions)):
                for gain in GAINS[:3]:
                    amounts = wager(room, number, gain=gain)
                    self.gives(amounts is not None, within(is_wager, room), number, amounts)

    def test_any_gains_above_0(self):
        room = room_of("0:1/2 1:1/2", "0:1/3 1:2/3")
        # The first one expects (x + y) / 2, the second one -(x + 2 y) / 3.
        for x, y, wanted in ((3, -2, True), (5, -3, True), (2, -1, False), (1, -1, False), (0, 0, False),
                             (-3, 2, False), (4, -3, True), (3, -3, False)):
            amounts = (((x, 1), (y, 1)), ((-x, 1), (-y, 1)))
            self.gives(wanted, within(is_wager, room), 0, amounts)

    def test_sums_other_than_0(self):
        for place in range(3):
            for change in (1, -1, Fraction(1, 1000)):
                row = list(ONLY[0])
                row[place] = pair_of(exact(row[place]) + change)
                self.gives(False, within(is_wager, QUARREL), 0, (tuple(row),) + ONLY[1:])
        self.gives(False, within(is_wager, QUARREL), 0, ((ONE,) * 3,) * 3)

    def test_a_part_that_gains_nothing(self):
        # Only the first observer lies in one part; the second one expects 0 in its part (2,).
        room = room_of("0:1/3 1:1/3 2:1/3", "0:1/2 1:1/2 | 2:1", "0:1/4 1:3/4 | 2:1")
        amounts = wager(room, 0)
        self.gives(True, within(is_wager, room), 0, amounts)
        moved = [list(row) for row in amounts]
        loss = exact(moved[1][2])
        moved[1][2] = ZERO
        moved[2][2] = pair_of(exact(moved[2][2]) + loss)
        self.gives(False, within(is_wager, room), 0, tuple(map(tuple, moved)))
        moved[1][2] = (-1, 1)
        moved[2][2] = pair_of(exact(moved[2][2]) + 1)
        self.gives(False, within(is_wager, room), 0, tuple(map(tuple, moved)))

    def test_no_wager_where_there_is_a_source(self):
        zero = ((ZERO,) * 3,) * 2
        self.gives(False, within(is_wager, AGREED), 0, zero)
        for x in range(-3, 4):
            for y in range(-3, 4):
                for z in range(-3, 4):
                    amounts = (((x, 1), (y, 1), (z, 1)), ((-x, 1), (-y, 1), (-z, 1)))
                    self.gives(False, within(is_wager, AGREED), 0, amounts)

    def test_a_bool_is_no_integer(self):
        self.assertIn(ONE, ONLY[0])
        for pair in ((True, 1), (1, True)):
            row = tuple(pair if amount == ONE else amount for amount in ONLY[0])
            self.gives(False, within(is_wager, QUARREL), 0, (row,) + ONLY[1:])

    def test_any_other_value(self):
        for value in OTHER_KINDS + WRONG_AMOUNTS:
            for room in (AGREED, QUARREL):
                self.gives(False, within(is_wager, room), 0, value)
        self.gives(False, within(is_wager, AGREED), 0, ONLY)

    def test_the_wager_of_another_region(self):
        two = room_with(observer_of("0:1/2 1:1/2 | 2:1/2 3:1/2"), observer_of("0:1/3 1:2/3 | 2:2/3 3:1/3"))
        for region in range(2):
            amounts = wager(two, region)
            self.gives(True, within(is_wager, two), region, amounts)
            self.gives(False, within(is_wager, two), 1 - region, amounts)

    def test_present_odds_count(self):
        self.gives(True, within(is_wager, HIDDEN), 0, ONLY)
        self.gives(False, within(is_wager, room_with(*HIDDEN.observers)), 0, ONLY)

    def test_wrong_regions(self):
        for room in (AGREED, SEVERAL, REDUCED):
            for region in NOT_NUMBERS + (len(room.regions),):
                for value in (ONLY, None):
                    self.refuses(InvalidRegionError, within(is_wager, room), region, value)


# Wrong amounts for a region of three cases and three observers.
WRONG_AMOUNTS = OTHER_KINDS + (
    0,
    ONLY[:2],
    ONLY + (ONLY[0],),
    ONLY + ((ZERO,) * 3,),
    list(ONLY),
    tuple(map(list, ONLY)),
    tuple(row[:2] for row in ONLY),
    tuple(row + (ZERO,) for row in ONLY),
    ONLY[:2] + (ONLY[2][:2],),
    ONLY[:2] + (ONLY[2] + (ZERO,),),
    ONLY[:2] + (None,),
    ONLY[:2] + ((),),
    ONLY[:2] + ((ONE, ONE, 1),),
    ONLY[:2] + ((ONE, ONE, None),),
    ONLY[:2] + ((ONE, ONE, (2, 4)),),
    ONLY[:2] + ((ONE, ONE, (0, 2)),),
    ONLY[:2] + ((ONE, ONE, (1, 0)),),
    ONLY[:2] + ((ONE, ONE, (1, -1)),),
    ONLY[:2] + ((ONE, ONE, (True, 1)),),
    ONLY[:2] + ((ONE, ONE, [1, 1]),),
    ONLY[:2] + ((ONE, ONE, (1, 1, 1)),),
    dict(enumerate(ONLY)),
    str(ONLY),
    ONLY[0],
)


class ExpectedTest(PromiseCase):
    """Point 61: expected."""

    def test_the_wager_of_point_1(self):
        self.gives(((ONE, ONE),) * 3, within(expected, QUARREL), 0, ONLY)

    def test_examples(self):
        amounts = (((1, 1), (2, 1), (3, 1)), ((0, 1), (-3, 2), (6, 1)))
        self.gives((((3, 2), (3, 1)), ((0, 1), (7, 2))), within(expected, AGREED), 0, amounts)
        self.gives(((ZERO, ZERO),) * 2, within(expected, AGREED), 0, ((ZERO,) * 3,) * 2)
        self.gives((((-1, 3),), ((2, 3),), (ZERO, ZERO)), within(expected, SEVERAL), 0, (
            (ONE, (-1, 1)), (ZERO, ONE), (ZERO, ZERO)))
        self.gives((((5, 1),), ((-5, 1),), ((1, 2),)), within(expected, SEVERAL), 1, (
            ((5, 1),), ((-5, 1),), ((1, 2),)))

    def test_amounts_that_do_not_add_up_to_0(self):
        self.gives((((7, 3), (7, 3)),) * 3, within(expected, QUARREL), 0, (((7, 3),) * 3,) * 3)

    def test_present_odds_count(self):
        self.gives(((ONE, ONE),) * 3, within(expected, HIDDEN), 0, ONLY)
        amounts = (((3, 1), (6, 1)), ((4, 1), (5, 1)), (ONE, (2, 1)))
        self.gives((((5, 1),), ((4, 1), (5, 1)), (ONE, (2, 1))), within(expected, REDUCED), 0, amounts)
        self.gives(((ONE,), ((2, 1),), ((3, 1),)), within(expected, REDUCED), 1, ((ONE,), ((2, 1),), ((3, 1),)))

    def test_parts_are_ordered_by_their_least_present_cases(self):
        room = room_of("0:1/2 3:1/2 | 1:1/2 2:1/2", "0:1/4 1:1/4 2:1/4 3:1/4", cases=(1, 2, 3))
        amounts = (((1, 1), (2, 1), (5, 1)), ((0, 1), (0, 1), (3, 1)))
        self.gives((((3, 2), (5, 1)), (ONE,)), within(expected, room), 0, amounts)
        room.cases = (2, 3)
        self.gives((((2, 1), (5, 1)), ((3, 2),)), within(expected, room), 0, (amounts[0][1:], amounts[1][1:]))
        room.cases = (0, 1, 2, 3)
        amounts = (((4, 1),) + amounts[0], ((1, 1),) + amounts[1])
        self.gives((((9, 2), (3, 2)), (ONE,)), within(expected, room), 0, amounts)

    def test_many_rooms(self):
        source_of_numbers = numbers(9)
        for room in rooms():
            for number, cases in enumerate(room.regions):
                amounts = tuple(
                    tuple(
                        pair_of(Fraction(next(source_of_numbers) % 41 - 20, next(source_of_numbers) % 5 + 1))
                        for _ in cases
                    )
                    for _ in room.observers
                )
                wanted = expected_by_hand(room, cases, amounts)
                self.gives(wanted, within(expected, room), number, amounts)

    def test_large_amounts(self):
        room = room_with(Observer.even((0, 0)))
        self.gives((((HUGE + 3, 2),),), within(expected, room), 0, (((HUGE, 1), (3, 1)),))

    def test_answers_follow_the_odds(self):
        observer = observer_of("0:1/2 1:1/2")
        room = room_with(observer)
        self.gives((((2, 1),),), within(expected, room), 0, ((ONE, (3, 1)),))
        observer.odds = ((1, 4), (3, 4))
        self.gives((((5, 2),),), within(expected, room), 0, ((ONE, (3, 1)),))

    def test_wrong_amounts(self):
        for value in WRONG_AMOUNTS:
            self.refuses(InvalidAmountsError, within(expected, QUARREL), 0, value)
        self.refuses(InvalidAmountsError, within(expected, AGREED), 0, ONLY)
        self.refuses(InvalidAmountsError, within(expected, SEVERAL), 0, ONLY)
        # One amount for each present case of the room is too many for a region.
        self.refuses(InvalidAmountsError, within(expected, SEVERAL), 0, ((ZERO,) * 6,) * 3)

    def test_wrong_regions(self):
        for room in (AGREED, SEVERAL, REDUCED):
            for region in NOT_NUMBERS + (len(room.regions),):
                for value in (ONLY, None):
                    self.refuses(InvalidRegionError, within(expected, room), region, value)


class WagersInterfaceTest(PromiseCase):

    def test_names_and_parameters(self):
        self.has_interface(wagers, {
            "wager": "(room, region, *, gain=(1, 1))",
            "is_wager": "(room, region, value)",
            "expected": "(room, region, amounts)",
        })


if __name__ == "__main__":
    unittest.main()
