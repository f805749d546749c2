"""Tests of wagerroom.sources: points 50 to 52, and the rooms of point 1."""

import itertools
import unittest

from tests.helper import OTHER_KINDS, PromiseCase
from tests.scenery import (
    AGREED, HIDDEN, NOT_NUMBERS, QUARREL, REDUCED, SAMPLES, SEVERAL, exact, observer_of, pair_of, room_of, room_with,
    some_rooms, within,
)
from wagerroom import sources
from wagerroom.errors import InvalidRegionError, InvalidWalkError
from wagerroom.observers import Believer, Diarist, Observer, Recorder
from wagerroom.sources import certifies, shortest_walk, source, walk_product

ONE = (1, 1)


def rooms():
    """Rooms with regions with a source and without."""
    found = list(SAMPLES)
    found += some_rooms(1, 100)
    found += some_rooms(2, 30, of_one_mind=True)
    return found


def regions(room):
    return list(enumerate(room.regions))


def steps_of(room, cases):
    """All steps in a region by the words of point 50, with their ratios."""
    found = {}
    for number, observer in enumerate(room.observers):
        odds = dict(zip(room.cases, map(exact, room.present_odds(number))))
        for case, after in itertools.product(cases, repeat=2):
            if observer.labels[case] == observer.labels[after]:
                found[number, case, after] = odds[after] / odds[case]
    return found


def is_walk_in(room, cases, value):
    """Whether a tuple of steps is a walk in the region, by the words of point 50."""
    steps = steps_of(room, cases)
    return (
        type(value) is tuple
        and len(value) > 0
        and all(type(step) is tuple and step in steps for step in value)
        and all(one[2] == other[1] for one, other in zip(value, value[1:]))
    )


def product_of(room, cases, walk):
    steps = steps_of(room, cases)
    result = 1
    for step in walk:
        result *= steps[step]
    return result


def is_bad(room, cases, value):
    return (
        is_walk_in(room, cases, value)
        and value[0][1] == value[-1][2]
        and product_of(room, cases, value) != 1
    )


def is_source_of(room, cases, fractions):
    """Whether these fractions are the source of the region, by the words of point 50."""
    values = [exact(pair) for pair in fractions]
    if len(values) != len(cases) or min(values) <= 0 or sum(values) != 1:
        return False
    worth = dict(zip(cases, values))
    for number, observer in enumerate(room.observers):
        odds = dict(zip(room.cases, room.present_odds(number)))
        for case in cases:
            part = [other for other in cases if observer.labels[other] == observer.labels[case]]
            if pair_of(worth[case] / sum(worth[other] for other in part)) != odds[case]:
                return False
    return True


def fewest_steps(room, cases):
    """The length of the shortest bad walks, found by trying all walks; None if there is none."""
    steps = steps_of(room, cases)
    best = None
    for root in cases:
        known = {(root, 1)}
        border = known
        # A walk that comes to a case twice can be cut in two, and one of them is bad.
        for length in range(1, len(cases) + 1):
            border = {
                (after, worth * ratio)
                for place, worth in border
                for (_, case, after), ratio in steps.items()
                if case == place
            } - known
            known = known | border
            if any(place == root and worth != 1 for place, worth in border):
                best = length if best is None else min(best, length)
                break
    return best


class SourceTest(PromiseCase):
    """Points 50 and 51: source."""

    def test_the_rooms_of_point_1(self):
        self.gives(("source", ((1, 4), (1, 4), (1, 2))), within(source, AGREED), 0)
        told, walk = self.call(within(source, QUARREL), 0)
        self.assertEqual(told, "walk")
        self.assertTrue(is_bad(QUARREL, (0, 1, 2), walk))

    def test_one_observer(self):
        room = room_of("0:1/6 2:5/6 | 1:1")
        self.gives(("source", ((1, 6), (5, 6))), within(source, room), 0)
        self.gives(("source", (ONE,)), within(source, room), 1)
        self.gives(("source", (ONE,)), within(source, room_of("0:1")), 0)

    def test_several_regions(self):
        self.gives(("source", ((1, 3), (2, 3))), within(source, SEVERAL), 0)
        self.gives(("source", (ONE,)), within(source, SEVERAL), 1)
        told, walk = self.call(within(source, SEVERAL), 2)
        self.assertEqual(told, "walk")
        self.assertTrue(is_bad(SEVERAL, (3, 4, 5), walk))

    def test_absent_cases(self):
        self.gives(("source", ((1, 3), (2, 3))), within(source, REDUCED), 0)
        self.gives(("source", (ONE,)), within(source, REDUCED), 1)
        whole = room_with(*REDUCED.observers)
        self.assertEqual(self.call(within(source, whole), 0)[0], "walk")
        self.assertTrue(is_bad(HIDDEN, (0, 1, 2), self.call(within(source, HIDDEN), 0)[1]))

    def test_sources_and_walks_of_many_rooms(self):
        kinds = []
        for room in rooms():
            for number, cases in regions(room):
                told, found = self.call(within(source, room), number)
                kinds.append(told)
                if told == "source":
                    self.assertTrue(is_source_of(room, cases, found))
                    self.assertIsNone(fewest_steps(room, cases))
                else:
                    self.assertEqual(told, "walk")
                    self.assertTrue(is_bad(room, cases, found))
        self.assertGreater(kinds.count("source"), 50)
        self.assertGreater(kinds.count("walk"), 20)

    def test_rooms_of_one_mind_have_sources(self):
        for room in some_rooms(4, 40, of_one_mind=True):
            for number, cases in regions(room):
                self.assertEqual(self.call(within(source, room), number)[0], "source")

    def test_twelve_cases_and_six_observers(self):
        weights = (1, 5, 2, 8, 3, 1, 1, 4, 9, 2, 6, 7)
        believer = Believer((0,) * 12, weights)
        room = room_with(*[believer] * 6)
        wanted = tuple(pair_of(exact((weight, sum(weights)))) for weight in weights)
        self.gives(("source", wanted), within(source, room), 0)
        room = room_with(*[believer] * 5, Observer.even((0,) * 12))
        self.assertTrue(is_bad(room, room.cases, self.call(within(source, room), 0)[1]))
        self.assertEqual(len(self.call(within(shortest_walk, room), 0)), 2)

    def test_observers_of_all_classes(self):
        room = room_with(
            Believer((0, 0, 1), (1, 1, 5)),
            Recorder((0, 1, 1), (ONE, (1, 3), (2, 3))),
            Diarist((0, 1, 0), (1, 9, 2)),
        )
        self.gives(("source", ((1, 4), (1, 4), (1, 2))), within(source, room), 0)

    def test_answers_follow_the_odds(self):
        observer = observer_of("0:1/2 1:1/2")
        room = room_with(observer, observer_of("0:1/3 1:2/3"))
        self.assertEqual(source(room, 0)[0], "walk")
        observer.odds = ((1, 3), (2, 3))
        self.gives(("source", ((1, 3), (2, 3))), within(source, room), 0)
        self.gives(None, within(shortest_walk, room), 0)

    def test_answers_follow_the_present_cases(self):
        room = room_with(*REDUCED.observers)
        self.assertEqual(source(room, 0)[0], "walk")
        room.cases = (0, 1, 3)
        self.gives(("source", ((1, 3), (2, 3))), within(source, room), 0)

    def test_wrong_regions(self):
        for room in (AGREED, SEVERAL, REDUCED):
            for value in NOT_NUMBERS + (len(room.regions),):
                self.refuses(InvalidRegionError, within(source, room), value)


class CertifiesTest(PromiseCase):
    """Point 51: certifies."""

    def test_the_answers_of_source(self):
        for room in rooms():
            for number, cases in regions(room):
                self.gives(True, within(certifies, room), number, source(room, number))
                walk = shortest_walk(room, number)
                self.gives(walk is not None, within(certifies, room), number, ("walk", walk))

    def test_other_fractions(self):
        right = ((1, 4), (1, 4), (1, 2))
        self.gives(True, within(certifies, AGREED), 0, ("source", right))
        wrong = (
            ((1, 4), (1, 2), (1, 4)),
            ((1, 3), (1, 3), (1, 3)),
            ((1, 2), (1, 2), ONE),
            ((2, 8), (1, 4), (1, 2)),
            right[:2],
            right + ((0, 1),),
            list(right),
            tuple(map(list, right)),
            (),
            None,
            "source",
            ((0, 0, 1),),
        )
        for value in wrong:
            self.gives(False, within(certifies, AGREED), 0, ("source", value))
            self.gives(False, within(certifies, QUARREL), 0, ("source", value))
        for value in (["source", right], ("Source", right), ("walk", right), (right, "source"), (None, right),
                      ("source", right, None), ("source",), right, (("source",), right), (("source", right),)):
            self.gives(False, within(certifies, AGREED), 0, value)

    def test_a_bool_is_no_integer(self):
        room = room_of("0:1/2 1:1/2 | 2:1")
        self.gives(True, within(certifies, room), 1, ("source", (ONE,)))
        for pair in ((True, 1), (1, True), (True, True)):
            self.gives(False, within(certifies, room), 1, ("source", (pair,)))
        self.gives(False, within(certifies, room), 0, ("source", ((True, 2), (1, 2))))
        self.gives(True, within(certifies, QUARREL), 0, ("walk", ((0, 0, 1), (1, 1, 2), (2, 2, 0))))
        self.gives(False, within(certifies, QUARREL), 0, ("walk", ((False, 0, 1), (1, 1, 2), (2, 2, 0))))
        self.gives(False, within(certifies, QUARREL), 0, ("walk", ((0, 0, True), (1, 1, 2), (2, 2, 0))))
        self.gives(False, within(certifies, QUARREL), 0, ("walk", ((0, 0, 1), (1, True, 2), (2, 2, 0))))

    def test_any_bad_walk(self):
        walk = ((0, 0, 1), (1, 1, 2), (2, 2, 0))
        for value in (
            walk,
            walk[1:] + walk[:1],
            walk * 2,
            walk * 30,
            ((2, 0, 2), (1, 2, 1), (0, 1, 0)),
            ((0, 1, 1),) + walk[1:] + ((0, 0, 0),) + walk[:1] + ((0, 1, 1),),
            ((0, 1, 0),) + walk + walk[:1],
        ):
            self.assertTrue(is_bad(QUARREL, (0, 1, 2), value))
            self.gives(True, within(certifies, QUARREL), 0, ("walk", value))

    def test_walks_that_are_not_bad(self):
        walk = ((0, 0, 1), (1, 1, 2), (2, 2, 0))
        for value in (
            walk[:1],
            walk[:2],
            walk[1:],
            walk + walk[:1],
            ((0, 0, 0),),
            ((0, 0, 1), (0, 1, 0)),
            walk + ((2, 0, 2), (1, 2, 1), (0, 1, 0)),
            (),
            ((0, 0, 1), (2, 2, 0)),
            ((0, 0, 1), (0, 1, 2), (2, 2, 0)),
            (walk[0], walk[2], walk[1]),
            ((3, 0, 1), (1, 1, 2), (2, 2, 0)),
            ((-3, 0, 1), (1, 1, 2), (2, 2, 0)),
            ((0, 0, 1), (1, 1, -1), (2, -1, 0)),
            ((0, 0, 1), (1, 1, 3), (2, 3, 0)),
            ((0, 0, 1, 1), (1, 1, 2), (2, 2, 0)),
            ((0, 0), (1, 1, 2), (2, 2, 0)),
            list(walk),
            tuple(map(list, walk)),
            (walk,),
            walk + (None,),
            walk + ((),),
        ):
            self.gives(False, within(certifies, QUARREL), 0, ("walk", value))
        self.gives(False, within(certifies, QUARREL), 0, walk)
        self.gives(False, within(certifies, QUARREL), 0, ["walk", walk])
        self.gives(False, within(certifies, QUARREL), 0, ("source", walk))

    def test_walks_in_another_region(self):
        walk = source(SEVERAL, 2)[1]
        self.gives([False, False, True], lambda: [certifies(SEVERAL, region, ("walk", walk)) for region in range(3)])
        two = room_with(observer_of("0:1/2 1:1/2 | 2:1/2 3:1/2"), observer_of("0:1/3 1:2/3 | 2:1/3 3:2/3"))
        self.gives(True, within(certifies, two), 1, ("walk", ((0, 2, 3), (1, 3, 2))))
        self.gives(False, within(certifies, two), 0, ("walk", ((0, 2, 3), (1, 3, 2))))
        self.gives(False, within(certifies, two), 1, ("walk", ((0, 0, 1), (1, 1, 0))))

    def test_walks_through_absent_cases(self):
        walk = ((0, 2, 3), (2, 3, 2))
        self.gives(True, within(certifies, room_with(*REDUCED.observers)), 0, ("walk", walk))
        for region in range(2):
            self.gives(False, within(certifies, REDUCED), region, ("walk", walk))

    def test_the_source_of_another_region(self):
        answer = ("source", ((1, 3), (2, 3)))
        self.gives([True, False, False], lambda: [certifies(SEVERAL, region, answer) for region in range(3)])

    def test_any_other_value(self):
        for value in OTHER_KINDS:
            for room in (AGREED, QUARREL):
                for told in (value, ("source", value), ("walk", value), (value, ()), (value, value)):
                    self.gives(False, within(certifies, room), 0, told)

    def test_wrong_regions(self):
        for room in (AGREED, SEVERAL, REDUCED):
            for region in NOT_NUMBERS + (len(room.regions),):
                for value in (source(room, 0), None):
                    self.refuses(InvalidRegionError, within(certifies, room), region, value)


class WalkProductTest(PromiseCase):
    """Point 51: walk_product."""

    def test_examples(self):
        for walk, wanted in (
            (((0, 0, 1),), ONE),
            (((1, 1, 2),), (2, 1)),
            (((1, 2, 1),), (1, 2)),
            (((1, 1, 1),), ONE),
            (((2, 1, 1),), ONE),
            (((0, 0, 1), (1, 1, 2)), (2, 1)),
            (((0, 0, 1), (1, 1, 2), (2, 2, 0)), (2, 1)),
            (((0, 0, 1), (1, 1, 2), (2, 2, 0)) * 3, (8, 1)),
            (((2, 0, 2), (1, 2, 1), (0, 1, 0)) * 3, (1, 8)),
            (((1, 1, 2), (1, 2, 1)), ONE),
        ):
            self.gives(wanted, within(walk_product, QUARREL), walk)

    def test_each_step_of_many_rooms(self):
        for room in rooms():
            steps = {}
            for _, cases in regions(room):
                steps.update(steps_of(room, cases))
            for step, ratio in steps.items():
                self.gives(pair_of(ratio), within(walk_product, room), (step,))
            for step in itertools.product(range(-1, 5), range(-1, 8), range(-1, 8)):
                if step not in steps:
                    with self.assertRaises(InvalidWalkError):
                        walk_product(room, (step,))

    def test_all_walks_of_two_and_three_steps(self):
        room = SEVERAL
        steps = {}
        for _, cases in regions(room):
            steps.update(steps_of(room, cases))
        for many in (2, 3):
            for walk in itertools.islice(itertools.product(steps, repeat=many), 0, None, 7):
                if all(one[2] == other[1] for one, other in zip(walk, walk[1:])):
                    wanted = 1
                    for step in walk:
                        wanted *= steps[step]
                    self.gives(pair_of(wanted), within(walk_product, room), walk)
                else:
                    self.refuses(InvalidWalkError, within(walk_product, room), walk)

    def test_long_walks(self):
        self.gives((2 ** 300, 1), within(walk_product, QUARREL), ((0, 0, 1), (1, 1, 2), (2, 2, 0)) * 300)

    def test_all_present_cases_count(self):
        self.gives((2, 1), within(walk_product, REDUCED), ((0, 0, 3),))
        for walk in (((0, 0, 2),), ((0, 2, 3),), ((1, 2, 2),), ((0, 0, 3), (0, 3, 2)), ((1, 2, 1), (1, 1, 1))):
            self.refuses(InvalidWalkError, within(walk_product, REDUCED), walk)
            self.call(within(walk_product, room_with(*REDUCED.observers)), walk)

    def test_other_values(self):
        step = (0, 0, 1)
        for value in OTHER_KINDS + (
            0,
            step,
            [step],
            (list(step),),
            (step, None),
            (step, ()),
            ((0, 0, 1, 0),),
            ((0, 0),),
            ((0, 0, True),),
            ((0, False, 1),),
            ((False, 0, 1),),
            ((0, 0, "1"),),
            ((0, 0, None),),
            ((0, 0, (1,)),),
            ((0, 0, [1]),),
            ((0, 0, 2),),
            ((0, 0, 3),),
            ((0, -1, -1),),
            ((3, 0, 0),),
            ((-1, 0, 1),),
            (step, step),
            (step, (1, 2, 1)),
            (step, (0, 1, 0), (1, 1, 2)),
            ("walk", (step,)),
            source(QUARREL, 0),
            {0: step},
        ):
            self.refuses(InvalidWalkError, within(walk_product, QUARREL), value)


class ShortestWalkTest(PromiseCase):
    """Point 52."""

    def test_as_short_as_any(self):
        lengths = []
        for room in rooms():
            for number, cases in regions(room):
                walk = self.call(within(shortest_walk, room), number)
                fewest = fewest_steps(room, cases)
                if fewest is None:
                    self.assertIsNone(walk)
                else:
                    self.assertTrue(is_bad(room, cases, walk))
                    self.assertEqual(len(walk), fewest)
                lengths.append(fewest)
        for length in (None, 2, 3):
            self.assertIn(length, lengths)

    def test_rooms_of_point_1(self):
        self.gives(None, within(shortest_walk, AGREED), 0)
        self.assertEqual(len(self.call(within(shortest_walk, QUARREL), 0)), 3)

    def test_a_ring_of_each_length(self):
        # Each of two observers links every other pair of neighbours in a ring.
        for many in (2, 4, 6, 8, 10, 12):
            pairs = many // 2
            one = Observer(tuple(case // 2 for case in range(many)), ((1, 3), (2, 3)) * pairs)
            labels = (0,) + tuple((case + 1) // 2 for case in range(1, many - 1)) + (0,)
            even = Observer(labels, ((1, 2),) * many)
            room = room_with(one, even)
            walk = self.call(within(shortest_walk, room), 0)
            self.assertTrue(is_bad(room, room.cases, walk))
            self.assertEqual(len(walk), many)

    def test_far_from_the_first_case(self):
        # All cases hang together; the only quarrel is about the last two.
        room = room_of(
            "0:1/2 1:1/2 | 2:1/2 3:1/2 | 4:1/2 5:1/2 | 6:1/3 7:2/3",
            "0:1 | 1:1/2 2:1/2 | 3:1/2 4:1/2 | 5:1/2 6:1/2 | 7:1",
            "0:1 | 1:1 | 2:1 | 3:1 | 4:1 | 5:1 | 6:1/2 7:1/2",
        )
        walk = self.call(within(shortest_walk, room), 0)
        self.assertEqual(len(walk), 2)
        self.assertTrue(is_bad(room, room.cases, walk))

    def test_wrong_regions(self):
        for room in (AGREED, SEVERAL, REDUCED):
            for value in NOT_NUMBERS + (len(room.regions),):
                self.refuses(InvalidRegionError, within(shortest_walk, room), value)


class SourcesInterfaceTest(PromiseCase):

    def test_names_and_parameters(self):
        self.has_interface(sources, {
            "source": "(room, region)",
            "certifies": "(room, region, value)",
            "walk_product": "(room, walk)",
            "shortest_walk": "(room, region)",
        })


if __name__ == "__main__":
    unittest.main()
