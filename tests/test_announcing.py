"""Tests of wagerroom.announcing: points 70 to 72."""

import inspect
import itertools
import unittest

from tests.helper import OTHER_KINDS, PromiseCase
from tests.scenery import (
    AGREED, CLASSES, HIDDEN, QUARREL, REDUCED, SAMPLES, SEVERAL, exact, not_events, numbers, pair_of, room_of,
    room_with, some_rooms, subsets, weighed, within,
)
from wagerroom import announcing
from wagerroom.announcing import announcements, ends, fewest, settled
from wagerroom.cells import is_valid_labels
from wagerroom.errors import InvalidEventError, InvalidGroupError
from wagerroom.observers import Observer
from wagerroom.rooms import Room
from wagerroom.sources import source

ONE = (1, 1)
HALF = (1, 2)
ZERO = (0, 1)


def listed(room, event, **keywords):
    return list(announcements(room, event, **keywords))


def said_by_hand(room, event, labels, number):
    """What an observer announces, by the words of point 70."""
    public = dict(zip(room.cases, labels))
    odds = dict(zip(room.cases, map(exact, room.present_odds(number))))
    own = room.observers[number].labels
    found = []
    for case in room.cases:
        part = [other for other in room.cases if own[other] == own[case] and public[other] == public[case]]
        found.append(sum(odds[other] for other in part if other in event) / sum(odds[other] for other in part))
    return tuple(found)


def learned_by_hand(labels, said):
    """The labels of the public partition after this was announced."""
    marks = list(zip(labels, said))
    firsts = list(dict.fromkeys(marks))
    return tuple(firsts.index(mark) for mark in marks)


def announced_by_hand(room, event, order=()):
    labels = (0,) * len(room.cases)
    quiet = 0
    found = []
    for number in itertools.cycle(order or range(len(room.observers))):
        if quiet == len(room.observers):
            return found
        said = said_by_hand(room, event, labels, number)
        learned = learned_by_hand(labels, said)
        quiet = quiet + 1 if learned == labels else 0
        labels = learned
        found.append((number, tuple(map(pair_of, said)), labels))


def searched_by_hand(room, event):
    """The quiet partitions that announcements lead to, each with all shortest tuples of observers."""
    found = {}
    everyone = range(len(room.observers))
    border = {(0,) * len(room.cases): [()]}
    seen = set()
    while border:
        further = {}
        for labels, ways in border.items():
            changes = [(number, learned_by_hand(labels, said_by_hand(room, event, labels, number)))
                       for number in everyone]
            if all(changed == labels for _, changed in changes):
                found.setdefault(labels, ways)
            for number, changed in changes:
                if changed != labels and changed not in seen:
                    further.setdefault(changed, []).extend(way + (number,) for way in ways)
        seen.update(border)
        border = further
    return found


def all_tuples_by_hand(room, event, most):
    """The tuples of at most so many observers after whose announcements the public partition is quiet."""
    found = []
    for many in range(most + 1):
        for given in itertools.product(range(len(room.observers)), repeat=many):
            labels = (0,) * len(room.cases)
            for number in given:
                labels = learned_by_hand(labels, said_by_hand(room, event, labels, number))
            if is_quiet(room, event, labels):
                found.append(given)
    return found


def is_quiet(room, event, labels):
    return all(
        learned_by_hand(labels, said_by_hand(room, event, labels, number)) == labels
        for number in range(len(room.observers))
    )


def events_of(room):
    return subsets(range(len(room.observers[0].labels)))


def small_rooms(seed, count, **keywords):
    return some_rooms(seed, count, cases=5, observers=3, **keywords)


# The observer 0 first tells 0 and 2 from 1 and 3, the observer 1 first tells 3 from the others.
FOUR = room_of(
    "0:1/2 1:1/2 | 2:1/3 3:2/3",
    "0:1/3 1:1/3 2:1/3 | 3:1",
    "0:1/4 2:3/4 | 1:1/5 3:4/5",
)


class AnnouncementsTest(PromiseCase):
    """Points 70 and 71: announcements."""

    def test_the_example_of_point_72(self):
        self.gives([
            (0, (HALF, HALF, ZERO), (0, 0, 1)),
            (1, (ONE, ZERO, ZERO), (0, 1, 2)),
            (0, (ONE, ZERO, ZERO), (0, 1, 2)),
            (1, (ONE, ZERO, ZERO), (0, 1, 2)),
        ], within(listed, AGREED), (0,))

    def test_the_other_order(self):
        self.gives([
            (1, (ONE, ZERO, ZERO), (0, 1, 1)),
            (0, (ONE, ZERO, ZERO), (0, 1, 1)),
            (1, (ONE, ZERO, ZERO), (0, 1, 1)),
        ], within(listed, AGREED, order=(1, 0)), (0,))

    def test_the_order_as_it_is(self):
        self.gives(listed(AGREED, (0,)), within(listed, AGREED, order=()), (0,))
        self.gives(listed(AGREED, (0,)), within(listed, AGREED, order=(0, 1)), (0,))

    def test_the_empty_event_and_all_cases(self):
        for room in SAMPLES:
            many = len(room.cases)
            for event, said in (((), ZERO), (tuple(range(len(room.observers[0].labels))), ONE), (room.cases, ONE)):
                wanted = [(number, (said,) * many, (0,) * many) for number in range(len(room.observers))]
                self.gives(wanted, within(listed, room), event)

    def test_an_event_with_cases_that_are_not_present(self):
        for room in (REDUCED, HIDDEN):
            for event in events_of(room):
                inside = tuple(case for case in event if case in room.cases)
                self.gives(listed(room, inside), within(listed, room), event)

    def test_present_odds_count(self):
        # Without the case 3 the room is like QUARREL.
        for event in subsets(range(3)):
            self.gives(listed(QUARREL, event), within(listed, HIDDEN), event)
            self.gives(listed(QUARREL, event), within(listed, HIDDEN), event + (3,))
        room = room_of("0:1/2 1:1/4 2:1/4", cases=(1, 2))
        self.gives([(0, (HALF, HALF), (0, 0))], within(listed, room), (0, 1))

    def test_labels_are_over_the_present_cases(self):
        self.gives([
            (0, ((1, 3), ZERO, (1, 3)), (0, 1, 0)),
            (1, (ONE, ZERO, ZERO), (0, 1, 2)),
            (2, (ONE, ZERO, ZERO), (0, 1, 2)),
            (0, (ONE, ZERO, ZERO), (0, 1, 2)),
            (1, (ONE, ZERO, ZERO), (0, 1, 2)),
        ], within(listed, REDUCED), (0,))

    def test_what_is_learned_counts_in_the_next_announcement(self):
        # Observer 1 cannot tell the cases apart at all before observer 0 has spoken.
        room = room_of("0:1 | 1:1/2 2:1/2 | 3:1", "0:1/10 1:2/10 2:3/10 3:4/10".replace("2/10", "1/5")
                       .replace("4/10", "2/5"))
        self.gives([
            (0, (ONE, HALF, HALF, ZERO), (0, 1, 1, 2)),
            (1, (ONE, (2, 5), (2, 5), ZERO), (0, 1, 1, 2)),
            (0, (ONE, HALF, HALF, ZERO), (0, 1, 1, 2)),
        ], within(listed, room), (0, 1))

    def test_many_rooms(self):
        news = 0
        for room in [*SAMPLES, FOUR, *some_rooms(61, 60), *some_rooms(62, 15, cases=12, observers=6)]:
            orders = list(itertools.permutations(range(len(room.observers))))
            for at, event in enumerate(events_of(room)[::3][:40]):
                order = orders[at % len(orders)]
                self.gives(announced_by_hand(room, event), within(listed, room), event)
                self.gives(announced_by_hand(room, event, order), within(listed, room, order=order), event)
                news = max(news, len(listed(room, event)))
        self.assertGreater(news, 8)

    def test_it_stops_after_a_round_without_news(self):
        for room in (AGREED, QUARREL, SEVERAL, FOUR):
            many = len(room.observers)
            for event in events_of(room):
                for order in itertools.permutations(range(many)):
                    found = listed(room, event, order=order)
                    labels = [(0,) * len(room.cases)] + [after for _, _, after in found]
                    silent = [before == after for before, after in zip(labels, labels[1:])]
                    self.assertTrue(all(silent[-many:]))
                    for at in range(many, len(found)):
                        self.assertFalse(all(silent[at - many:at]))
                    self.assertEqual([number for number, _, _ in found],
                                     [order[at % many] for at in range(len(found))])

    def test_one_by_one(self):
        found = announcements(AGREED, (0,))
        for wanted in announced_by_hand(AGREED, (0,)):
            self.assert_alike(next(found), wanted)
        for _ in range(2):
            with self.assertRaises(StopIteration):
                next(found)

    def test_two_at_the_same_time(self):
        one, other = announcements(QUARREL, (0,)), announcements(QUARREL, (1, 2), order=(2, 0, 1))
        pairs = list(zip(one, other))
        for (left, right), wanted in zip(pairs, zip(listed(QUARREL, (0,)), listed(QUARREL, (1, 2), order=(2, 0, 1)))):
            self.assert_alike((left, right), wanted)

    def test_one_object_as_several_observers(self):
        observer = Observer((0, 0, 1), (HALF, HALF, ONE))
        found = listed(Room(observer, observer, observer), (0,))
        self.assert_alike([number for number, _, _ in found], [0, 1, 2, 0])

    def test_observers_of_all_classes(self):
        labels = ((0, 0, 1), (0, 1, 1), (0, 1, 0), (0, 0, 0))
        room = Room(*[weighed(own, (1, 2, 3), kind) for own, kind in zip(labels, CLASSES)])
        for event in subsets(range(3)):
            self.gives(announced_by_hand(room, event), within(listed, room), event)

    def test_all_announce_the_same_at_the_end(self):
        """If all odds come from one distribution, by the last words of point 71."""
        for room in some_rooms(63, 40, of_one_mind=True):
            regions = room.regions
            worth = {}
            for number, cases in enumerate(regions):
                worth.update(zip(cases, map(exact, source(room, number)[1])))
            for event in events_of(room)[::5]:
                last = listed(room, event)[-len(room.observers):]
                labels = dict(zip(room.cases, last[-1][2]))
                for case in room.cases:
                    together = [case]
                    for one in together:
                        together += [
                            other for other in room.cases
                            if other not in together and labels[other] == labels[one]
                            and any(seer.labels[other] == seer.labels[one] for seer in room.observers)
                        ]
                    odds = sum(worth[one] for one in together if one in event) / sum(worth[one] for one in together)
                    for _, said, _ in last:
                        self.assertEqual(exact(said[room.cases.index(case)]), odds)


class AnnouncementErrorsTest(PromiseCase):
    """Point 71: the errors of announcements and settled."""

    def wrong_orders(self, many):
        numbers_in_order = tuple(range(many))
        return [value for value in OTHER_KINDS if value not in ((), (0,))] + [
            0, many, numbers_in_order[:-1] or (1,), numbers_in_order + (0,), numbers_in_order + (many,),
            (many,), (-1,), tuple(number + 1 for number in numbers_in_order),
            tuple(number - 1 for number in numbers_in_order), (0,) * (many + 1), list(numbers_in_order),
            tuple(map(bool, numbers_in_order)), tuple(map(str, numbers_in_order)), [],
            dict.fromkeys(numbers_in_order), (numbers_in_order,), numbers_in_order * 2,
            numbers_in_order[:-1] + (None,), numbers_in_order[:-1] + ((0,),), numbers_in_order[:-1] + ([0],),
        ]

    def test_wrong_events(self):
        for room in (AGREED, REDUCED, FOUR):
            many = len(room.observers[0].labels)
            for event in not_events(many):
                self.refuses(InvalidEventError, within(listed, room), event)
                self.refuses(InvalidEventError, within(settled, room), event)
                self.refuses(InvalidEventError, within(settled, room, order=(0, 0)), event)

    def test_wrong_orders(self):
        for room in (AGREED, QUARREL, room_of("0:1/2 1:1/2")):
            for order in self.wrong_orders(len(room.observers)):
                for event in ((), (0,), room.cases):
                    self.refuses(InvalidGroupError, within(listed, room, order=order), event)
                    self.refuses(InvalidGroupError, within(settled, room, order=order), event)

    def test_the_event_comes_first(self):
        for order in self.wrong_orders(3):
            for event in (None, (0, 0), (3,), (True,)):
                self.refuses(InvalidEventError, within(listed, QUARREL, order=order), event)
                self.refuses(InvalidEventError, within(settled, QUARREL, order=order), event)

    def test_errors_come_when_the_iteration_begins(self):
        for event, order, error in ((None, (), InvalidEventError), ((0,), (0,), InvalidGroupError),
                                    ((9,), None, InvalidEventError)):
            begun = announcements(QUARREL, event, order=order)
            with self.assertRaises(error) as caught:
                next(begun)
            self.assertIs(type(caught.exception), error)

    def test_order_is_passed_by_keyword(self):
        with self.assertRaises(TypeError):
            list(announcements(AGREED, (0,), (0, 1)))
        with self.assertRaises(TypeError):
            settled(AGREED, (0,), (0, 1))


class SettledTest(PromiseCase):
    """Point 71: settled."""

    def test_examples(self):
        self.gives((0, 1, 2), within(settled, AGREED), (0,))
        self.gives((0, 1, 2), within(settled, AGREED, order=(0, 1)), (0,))
        self.gives((0, 1, 1), within(settled, AGREED, order=(1, 0)), (0,))
        self.gives((0, 0, 0), within(settled, AGREED), ())

    def test_many_rooms(self):
        for room in [*SAMPLES, FOUR, *some_rooms(64, 40)]:
            for event in events_of(room)[::3][:30]:
                for order in itertools.islice(itertools.permutations(range(len(room.observers))), 0, None, 5):
                    wanted = announced_by_hand(room, event, order)[-1][2]
                    self.gives(wanted, within(settled, room, order=order), event)
                    self.assertTrue(is_valid_labels(wanted))
                    self.assertTrue(is_quiet(room, event, wanted))
                self.gives(announced_by_hand(room, event)[-1][2], within(settled, room), event)


class EndsTest(PromiseCase):
    """Point 72: ends."""

    def test_the_example(self):
        self.gives(((0, 1, 1), (0, 1, 2)), within(ends, AGREED), (0,))

    def test_quiet_from_the_beginning(self):
        for room in SAMPLES:
            quiet = (0,) * len(room.cases)
            for event in ((), room.cases, tuple(range(len(room.observers[0].labels)))):
                self.gives((quiet,), within(ends, room), event)

    def test_compared_with_a_plain_search(self):
        most = 0
        for room in [*SAMPLES, FOUR, *small_rooms(65, 80), *some_rooms(66, 10)]:
            for event in events_of(room)[::2][:16]:
                wanted = tuple(sorted(searched_by_hand(room, event)))
                self.gives(wanted, within(ends, room), event)
                self.assertEqual(list(wanted), sorted(set(wanted)))
                self.assertIn(settled(room, event), wanted)
                most = max(most, len(wanted))
        self.assertGreater(most, 2)

    def test_twelve_cases_and_six_observers(self):
        for room in some_rooms(67, 6, cases=12, observers=6):
            for event in events_of(room)[1::701]:
                found = self.call(within(ends, room), event)
                self.assertEqual(found, tuple(sorted(searched_by_hand(room, event))))

    def test_wrong_events(self):
        for room in (AGREED, REDUCED, FOUR):
            for event in not_events(len(room.observers[0].labels)):
                self.refuses(InvalidEventError, within(ends, room), event)


class FewestTest(PromiseCase):
    """Point 72: fewest."""

    def test_the_example(self):
        self.gives((1,), within(fewest, AGREED), (0,))

    def test_quiet_from_the_beginning(self):
        for room in SAMPLES:
            for event in ((), room.cases, tuple(range(len(room.observers[0].labels)))):
                self.gives((), within(fewest, room), event)

    def test_the_least_of_the_shortest(self):
        # Each of the observers 1 and 2 tells all that there is to know.
        room = room_of("0:1/2 1:1/2 | 2:1", "0:1 | 1:1 | 2:1", "0:1 | 1:1 | 2:1")
        self.gives((1,), within(fewest, room), (0,))
        self.gives((0,), within(fewest, room.only(2, 0)), (0,))

    def test_compared_with_a_plain_search(self):
        lengths = set()
        for room in [*SAMPLES, FOUR, *small_rooms(68, 80), *some_rooms(69, 10)]:
            for event in events_of(room)[::2][:16]:
                ways = [way for found in searched_by_hand(room, event).values() for way in found]
                wanted = min(ways, key=lambda way: (len(way), way))
                self.gives(wanted, within(fewest, room), event)
                lengths.add(len(wanted))
        self.assertTrue({0, 1, 2, 3} <= lengths)

    def test_compared_with_all_tuples(self):
        for room in [*SAMPLES, FOUR, *small_rooms(70, 15)]:
            for event in events_of(room)[1::4]:
                wanted = fewest(room, event)
                found = all_tuples_by_hand(room, event, len(wanted))
                self.assertEqual(min(found, key=lambda way: (len(way), way)), wanted)
                self.gives(wanted, within(fewest, room), event)

    def test_its_announcements_lead_to_an_end(self):
        for room in small_rooms(71, 40):
            for event in events_of(room)[::4]:
                labels = (0,) * len(room.cases)
                for number in fewest(room, event):
                    learned = learned_by_hand(labels, said_by_hand(room, event, labels, number))
                    self.assertNotEqual(learned, labels)
                    labels = learned
                self.assertIn(labels, ends(room, event))

    def test_wrong_events(self):
        for room in (AGREED, REDUCED, FOUR):
            for event in not_events(len(room.observers[0].labels)):
                self.refuses(InvalidEventError, within(fewest, room), event)


class AnnouncingTogetherTest(PromiseCase):

    def test_answers_follow_the_odds_and_the_present_cases(self):
        room = room_with(*AGREED.observers)
        self.gives(listed(AGREED, (0,)), within(listed, room), (0,))
        room.cases = (0, 1)
        self.gives([(0, (HALF, HALF), (0, 0)), (1, (ONE, ZERO), (0, 1)), (0, (ONE, ZERO), (0, 1)),
                    (1, (ONE, ZERO), (0, 1))], within(listed, room), (0,))
        self.gives(((0, 1),), within(ends, room), (0,))
        self.gives((1,), within(fewest, room), (0,))
        other = Room(Observer((0, 0), (HALF, HALF)))
        self.gives([(0, (HALF, HALF), (0, 0))], within(listed, other), (1,))
        other.observers[0].odds = ((1, 3), (2, 3))
        self.gives([(0, ((2, 3), (2, 3)), (0, 0))], within(listed, other), (1,))

    def test_an_order_in_the_middle_of_others(self):
        # However the observers go on, they come to one of the ends.
        source_of_numbers = numbers(72)
        for room in small_rooms(73, 30):
            for event in events_of(room)[::6]:
                labels = (0,) * len(room.cases)
                while not is_quiet(room, event, labels):
                    number = next(source_of_numbers) % len(room.observers)
                    labels = learned_by_hand(labels, said_by_hand(room, event, labels, number))
                self.assertIn(labels, ends(room, event))


class AnnouncingInterfaceTest(PromiseCase):

    def test_names_and_parameters(self):
        self.has_interface(announcing, {
            "announcements": "(room, event, *, order=())",
            "settled": "(room, event, *, order=())",
            "ends": "(room, event)",
            "fewest": "(room, event)",
        })
        self.assertTrue(inspect.isgeneratorfunction(announcements))


if __name__ == "__main__":
    unittest.main()
