"""Tests of what connects the points of the document, and of its examples as they stand."""

import doctest
import inspect
import itertools
import unittest

from tests.helper import PromiseCase
from tests.scenery import (
    CLASSES, SAMPLES, exact, nearly_of_one_mind, parts_by_hand, room_with, some_rooms, state, subsets,
    with_present_odds,
)
from wagerroom import (
    announcing, beliefs, cells, errors, faults, groups, ledgers, observers, pooling, ratios, rooms, sources, texts,
    wagers,
)
from wagerroom.announcing import announcements, ends, fewest, settled
from wagerroom.beliefs import common, is_steady, steady
from wagerroom.errors import RoomError
from wagerroom.faults import fewest_faults, mended
from wagerroom.groups import in_harmony, largest_groups, least_quarrels
from wagerroom.ledgers import Ledger
from wagerroom.observers import Observer
from wagerroom.pooling import merged, pooled
from wagerroom.rooms import Room
from wagerroom.sources import certifies, shortest_walk, source, walk_product
from wagerroom.wagers import expected, is_wager, wager

ONE = (1, 1)

# The examples of the points 1, 72 and 92, each as it stands there.
POINT_1 = r'''
>>> room = Room.read("3 cases\n0:1/2 1:1/2 | 2:1\n0:1 | 1:1/3 2:2/3")
>>> source(room, 0)
('source', ((1, 4), (1, 4), (1, 2)))
>>> room = Room.read("3 cases\n0:1/2 1:1/2 | 2:1\n0:1 | 1:1/3 2:2/3\n0:1/2 2:1/2 | 1:1")
>>> source(room, 0)[0]
'walk'
>>> wager(room, 0)
(((-14, 1), (16, 1), (1, 1)), ((1, 1), (-17, 1), (10, 1)), ((13, 1), (1, 1), (-11, 1)))
'''

POINT_72 = r'''
>>> room = Room.read("3 cases\n0:1/2 1:1/2 | 2:1\n0:1 | 1:1/3 2:2/3")
>>> [(news[0], news[2]) for news in announcements(room, (0,))]
[(0, (0, 0, 1)), (1, (0, 1, 2)), (0, (0, 1, 2)), (1, (0, 1, 2))]
>>> ends(room, (0,)), fewest(room, (0,))
(((0, 1, 1), (0, 1, 2)), (1,))
'''

POINT_80 = r'''
>>> steady(room, (0, 1), (1, 2)), steady(room, (0, 1), (1, 3))
((0,), (0, 1))
'''

POINT_92 = r'''
>>> room = Room.read("3 cases\n0:1/2 1:1/2 | 2:1\n0:1 | 1:1/3 2:2/3\n0:1/2 2:1/2 | 1:1")
>>> largest_groups(room), least_quarrels(room)
(((0, 1), (0, 2), (1, 2)), ((0, 1, 2),))
>>> mended(room, 2, 0), faults(room, 0)
(('odds', ((1, 3), (2, 3))), ((0, 0), (1, 1), (2, 0)))
>>> fewest_faults(room, 0, 3), fewest_faults(room, 0, 0)
(((0, 0),), None)
'''


class ExamplesTest(unittest.TestCase):

    def test_the_examples_of_the_document(self):
        known = {
            "Room": Room, "source": source, "wager": wager, "announcements": announcements, "ends": ends,
            "fewest": fewest, "steady": steady, "largest_groups": largest_groups, "least_quarrels": least_quarrels,
            "mended": mended, "faults": faults.faults, "fewest_faults": fewest_faults,
        }
        for name, text in (("1", POINT_1), ("72 and 80", POINT_72 + POINT_80), ("92", POINT_92)):
            test = doctest.DocTestParser().get_doctest(text, dict(known), f"point {name}", None, 0)
            told = []
            result = doctest.DocTestRunner(verbose=False).run(test, out=told.append)
            self.assertGreater(result.attempted, 2)
            self.assertEqual(result.failed, 0, "".join(told))


def mixed_rooms():
    return [
        *SAMPLES, *some_rooms(131, 60), *some_rooms(132, 20, of_one_mind=True), *nearly_of_one_mind(133, 60),
        *some_rooms(134, 12, cases=12, observers=6), *nearly_of_one_mind(135, 12, cases=12, observers=6),
    ]


class SourceOrWagerTest(PromiseCase):
    """What the points 50 to 61 say of each other."""

    def check_region(self, room, region):
        """Return whether the region has a source."""
        answer = source(room, region)
        walk = shortest_walk(room, region)
        amounts = wager(room, region, gain=(2, 3))
        self.assert_alike(certifies(room, region, answer), True)
        self.assertEqual(answer[0] == "source", walk is None)
        self.assertEqual(answer[0] == "source", amounts is None)
        self.assertEqual(fewest_faults(room, region, 0), () if walk is None else None)
        self.assert_alike(is_wager(room, region, amounts), amounts is not None)
        if walk is not None:
            self.assert_alike(certifies(room, region, ("walk", walk)), True)
            self.assertNotEqual(walk_product(room, walk), ONE)
            self.assertNotEqual(walk_product(room, answer[1]), ONE)
            self.assertLessEqual(len(walk), len(answer[1]))
            for row in expected(room, region, amounts):
                self.assertEqual(set(row), {(2, 3)})
        return walk is None

    def test_all_cases_present_and_some(self):
        counts = {True: 0, False: 0}
        for room in mixed_rooms():
            whole = room_with(*room.observers)
            for one in (room, whole):
                found = [self.check_region(one, region) for region in range(len(one.regions))]
                for has_source in found:
                    counts[has_source] += 1
                self.assert_alike(in_harmony(one, *range(len(one.observers))), all(found))
        self.assertGreater(min(counts.values()), 60, counts)

    def test_after_suppositions(self):
        counts = {"source": 0, "walk": 0}
        for room in mixed_rooms()[:150]:
            for event in subsets(range(len(room.observers[0].labels)))[1::5][:20]:
                if not set(event) & set(room.cases):
                    continue
                left = room_with(*room.observers, cases=tuple(case for case in room.cases if case in event))
                for region, cases in enumerate(room.supposed((event,), "regions")):
                    answer = room.supposed((event,), "source", region)
                    counts[answer[0]] += 1
                    self.assert_alike(certifies(left, region, answer), True)
                    amounts = room.supposed((event,), "wager", region)
                    self.assertEqual(answer[0] == "source", amounts is None)
                    if amounts is not None:
                        self.assert_alike(is_wager(left, region, amounts), True)
                        self.assertEqual({len(row) for row in amounts}, {len(cases)})
        self.assertGreater(min(counts.values()), 60, counts)

    def test_a_source_stays_one_in_a_smaller_group(self):
        for room in some_rooms(136, 20, of_one_mind=True):
            for group in subsets(range(len(room.observers)))[1:]:
                smaller = room.only(*group)
                for region in range(len(smaller.regions)):
                    self.assertTrue(self.check_region(smaller, region))

    def test_the_part_that_mends_a_region(self):
        for room in mixed_rooms()[:120]:
            for region, cases in enumerate(room.regions):
                for name in faults.faults(room, region):
                    again = with_present_odds(room, {name: mended(room, *name)[1]})
                    self.assertTrue(self.check_region(again, region))

    def test_a_wager_can_be_paid(self):
        paid = 0
        for room in mixed_rooms()[:80]:
            for region, cases in enumerate(room.regions):
                amounts = wager(room, region)
                if amounts is None:
                    continue
                ledger = Ledger(room, region)
                for number, (place, case) in itertools.product(range(1, len(amounts)), enumerate(cases)):
                    top, bottom = amounts[number][place]
                    if top:
                        payer, receiver = (0, number) if top > 0 else (number, 0)
                        ledger.pay(case, payer, receiver, (abs(top), bottom))
                self.assert_alike((ledger.amounts, ledger.is_wager), (amounts, True))
                paid += 1
        self.assertGreater(paid, 20)


class TogetherTest(PromiseCase):

    def test_texts_keep_the_answers(self):
        for room in mixed_rooms()[::3]:
            again = Room.read(room.text())
            again.cases = room.cases
            self.assertTrue(again.same_as(room))
            for region in range(len(room.regions)):
                self.assert_alike(source(again, region), source(room, region))
                self.assert_alike(wager(again, region), wager(room, region))
            self.assert_alike(largest_groups(again), largest_groups(room))
            self.assert_alike(ends(again, (0,)), ends(room, (0,)))

    def test_what_is_announced_is_what_several_know(self):
        """When all announce the same, nobody learns more, and each knows at least the public partition."""
        for room in some_rooms(137, 25, of_one_mind=True):
            whole = room_with(*room.observers)
            seen = pooled(*room.observers)
            for event in subsets(whole.cases)[1::9]:
                labels = settled(whole, event)
                for one, other in itertools.combinations(whole.cases, 2):
                    if seen.labels[one] == seen.labels[other]:
                        self.assertEqual(labels[one], labels[other])

    def test_a_merged_room_of_rooms_in_quarrel(self):
        for room in mixed_rooms()[:40]:
            if len(room.observers) > 3:
                continue
            both = merged(room, room)
            both.cases = room.cases
            self.assert_alike(both.regions, room.regions)
            for region in range(len(room.regions)):
                self.assertEqual(source(both, region)[0], source(room, region)[0])
            self.assertEqual(
                {tuple(sorted({number % len(room.observers) for number in group})) for group in largest_groups(both)},
                set(largest_groups(room)),
            )

    def test_common_sets_are_steady(self):
        for room in mixed_rooms()[:60]:
            for event in subsets(range(len(room.observers[0].labels)))[::9][:10]:
                for p in ((1, 2), (1, 3), ONE):
                    for found in (common(room, event, p), steady(room, event, p)):
                        self.assert_alike(is_steady(room, found, p), True)
                    self.assertTrue(set(steady(room, event, p)) <= set(common(room, event, p)))

    def test_steady_with_bound_1(self):
        # A set that everybody is sure of consists of whole regions.
        for room in mixed_rooms()[:60]:
            for event in subsets(range(len(room.observers[0].labels)))[::9][:10]:
                wanted = sorted(case for cases in room.regions if set(cases) <= set(event) for case in cases)
                self.assert_alike(steady(room, event, ONE), tuple(wanted))

    def test_all_classes_give_the_same_answers(self):
        for room in mixed_rooms()[:60]:
            plain = room_with(*[Observer(one.labels, one.odds) for one in room.observers], cases=room.cases)
            self.assertTrue(plain.same_as(room))
            for region in range(len(room.regions)):
                self.assert_alike(source(plain, region), source(room, region))
                self.assert_alike(faults.faults(plain, region), faults.faults(room, region))
            self.assert_alike(least_quarrels(plain), least_quarrels(room))
            self.assert_alike(list(announcements(plain, (0,))), list(announcements(room, (0,))))
            self.assert_alike(settled(plain, (0,)), settled(room, (0,)))
        kinds = {type(observer) for room in mixed_rooms() for observer in room.observers}
        self.assertEqual(kinds, set(CLASSES))

    def test_no_question_changes_the_room(self):
        for room in mixed_rooms()[:40]:
            before = state(room)
            for name in parts_by_hand(room):
                mended(room, *name)
            for region in range(len(room.regions)):
                fewest_faults(room, region, 3)
                faults.faults(room, region)
                Ledger(room, region)
            for event in ((), (0,)):
                fewest(room, event)
                common(room, event, (1, 2))
            for wrong in (None, (0, 0), True):
                for function in (ends, fewest, settled):
                    with self.assertRaises(RoomError):
                        function(room, wrong)
            merged(room).cases = (0,)
            self.assert_alike(state(room), before)
            self.assertEqual(sum(map(exact, room.present_odds(0))), len({
                room.observers[0].labels[case] for case in room.cases
            }))


class WholeInterfaceTest(PromiseCase):
    """The interface: each name stands in its file, and each method in its class."""

    FUNCTIONS = {
        ratios: "is_valid_fraction fraction total product compare",
        cells: "is_valid_labels parts_of refined joined",
        sources: "source certifies walk_product shortest_walk",
        wagers: "wager is_wager expected",
        announcing: "announcements settled ends fewest",
        beliefs: "is_steady steady common",
        groups: "in_harmony largest_groups least_quarrels",
        faults: "mended faults fewest_faults",
        pooling: "pooled merged",
        texts: "format_fraction parse_fraction",
    }

    OBSERVER = "__init__ even assign_odds odds_of expects report same_as"

    CLASSES = {
        (observers, "Observer"): OBSERVER,
        (observers, "Believer"): OBSERVER + " assign_weights",
        (observers, "Recorder"): OBSERVER,
        (observers, "Diarist"): OBSERVER + " assign_weights",
        (rooms, "Room"): "__init__ read text assign_cases present_odds only supposed same_as",
        (ledgers, "Ledger"): "__init__ pay pay_all undo payments",
        (errors, "OddsDifferError"): "__init__",
    }

    def test_functions_are_defined_in_their_files(self):
        for module, names in self.FUNCTIONS.items():
            for name in names.split():
                self.assertTrue(inspect.isfunction(getattr(module, name)), name)
                self.assertEqual(getattr(module, name).__module__, module.__name__)

    def test_methods_are_defined_in_their_classes(self):
        for (module, name), methods in self.CLASSES.items():
            found = getattr(module, name)
            self.assertEqual(found.__module__, module.__name__)
            for method in methods.split():
                self.assertIn(method, vars(found), name)


if __name__ == "__main__":
    unittest.main()
