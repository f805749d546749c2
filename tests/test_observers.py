"""Tests of wagerroom.observers: points 22 and 30 to 33."""

import inspect
import itertools
import unittest
from fractions import Fraction

from tests.helper import OTHER_KINDS, PromiseCase
from tests.scenery import (
    AGREED, CLASSES, exact, not_events, numbers, observer_state, pair_of, some_labels, subsets, weighed,
)
from wagerroom import observers
from wagerroom.errors import (
    InvalidAmountsError, InvalidEventError, InvalidLabelsError, InvalidOddsError, InvalidWeightsError, RoomError,
)
from wagerroom.observers import Believer, Diarist, Observer, Recorder

WITH_ODDS = (Observer, Recorder)
WITH_WEIGHTS = (Believer, Diarist)

COARSEST = (0,) * 12
FINEST = tuple(range(12))
ONE = (1, 1)
HALF = (1, 2)
HUGE = 10 ** 40

LABELS = (0, 1, 0, 1, 2)
ODDS = ((1, 3), (1, 4), (2, 3), (3, 4), ONE)
OTHER_ODDS = ((1, 2), (1, 5), (1, 2), (4, 5), ONE)
WEIGHTS = (1, 1, 2, 3, 5)
PARTS = ((0, 2), (1, 3), (4,))

# Each with odds that are valid for it.
GOOD_ODDS = (
    ((0,), (ONE,)),
    ((0, 0), (HALF, HALF)),
    ((0, 0), ((1, 1000), (999, 1000))),
    ((0, 1), (ONE, ONE)),
    ((0, 0, 0), ((1, 2), (1, 3), (1, 6))),
    ((0, 0), ((1, HUGE), (HUGE - 1, HUGE))),
    (LABELS, ODDS),
    (LABELS, OTHER_ODDS),
    (COARSEST, ((1, 12),) * 12),
    (COARSEST, ((1, 78), (1, 39), (1, 26), (2, 39), (5, 78), (1, 13),
                (7, 78), (4, 39), (3, 26), (5, 39), (11, 78), (2, 13))),
    (FINEST, (ONE,) * 12),
    ((0, 0, 1, 1, 2, 2, 3, 3, 4, 4, 5, 5), ((1, 3), (2, 3)) * 6),
    ((0, 1, 2, 3, 0, 1, 2, 3, 0, 1, 2, 3), ((1, 2),) * 4 + ((1, 3),) * 4 + ((1, 6),) * 4),
)

WRONG_LABELS = OTHER_KINDS + (
    (1,),
    (0, 2),
    (0, -1),
    (0, True),
    (False,),
    (0, 0, None),
    [0],
    [0, 0, 1],
    "00",
    0,
    (0,) * 13,
    FINEST + (12,),
)

# Odds that are wrong for LABELS.
WRONG_ODDS = OTHER_KINDS + (
    0,
    1,
    ONE,
    ODDS[:-1],
    ODDS[1:],
    ODDS + (ONE,),
    list(ODDS),
    [list(pair) for pair in ODDS],
    tuple(list(pair) for pair in ODDS),
    dict(enumerate(ODDS)),
    str(ODDS),
    # Entries that are not fractions.
    ((1, 3), (1, 4), (2, 3), (3, 4), 1),
    ((1, 3), (1, 4), (2, 3), (3, 4), "1"),
    ((1, 3), (1, 4), (2, 3), (3, 4), None),
    ((1, 3), (1, 4), (2, 3), (3, 4), [1, 1]),
    ((1, 3), (1, 4), (2, 3), (3, 4), (True, 1)),
    ((1, 3), (1, 4), (2, 3), (3, 4), (1, True)),
    ((1, 3), (1, 4), (2, 3), (3, 4), (1, 1, 1)),
    ((1, 3), (1, 4), (2, 3), (3, 4), (1,)),
    # Not in lowest terms.
    ((2, 6), (1, 4), (2, 3), (3, 4), ONE),
    ((1, 3), (1, 4), (2, 3), (3, 4), (2, 2)),
    ((1, 3), (1, 4), (2, 3), (-3, -4), ONE),
    # 0 or below, also where the part adds up to 1.
    ((0, 1), (1, 4), ONE, (3, 4), ONE),
    ((-1, 3), (1, 4), (4, 3), (3, 4), ONE),
    ((1, 3), (5, 4), (2, 3), (-1, 4), ONE),
    ((1, 3), (1, 4), (2, 3), (3, 4), (0, 1)),
    ((1, 3), (1, 4), (2, 3), (3, 4), (-1, 1)),
    ((0, 1),) * 5,
    # Parts that do not add up to 1.
    ((1, 3), (1, 4), (1, 3), (3, 4), ONE),
    ((1, 3), (1, 4), (2, 3), (1, 4), ONE),
    ((1, 3), (1, 4), (2, 3), (3, 4), HALF),
    ((1, 3), (1, 4), (2, 3), (3, 4), (2, 1)),
    ((1, 3), (2, 3), (1, 4), (3, 4), ONE),
    ((1, 5),) * 5,
    (ONE,) * 5,
)

# Weights that are wrong for LABELS.
WRONG_WEIGHTS = OTHER_KINDS + (
    0,
    1,
    WEIGHTS[:-1],
    WEIGHTS + (1,),
    list(WEIGHTS),
    set(WEIGHTS),
    dict(enumerate(WEIGHTS)),
    "11235",
    (0, 1, 1, 1, 1),
    (1, 1, 1, 1, 0),
    (1, -1, 1, 1, 1),
    (1, 1, 1001, 1, 1),
    (10 ** 13, 1, 1, 1, 1),
    (True, 1, 1, 1, 1),
    (1, 1, 1, 1, True),
    (1, 1, False, 1, 1),
    (1, 1, None, 1, 1),
    (1, 1, "1", 1, 1),
    (1, 1, ONE, 1, 1),
    (1, 1, [1], 1, 1),
    (1, 1, (1,), 1, 1),
    (0,) * 5,
    (ONE,) * 5,
)

WRONG_EVENTS = not_events(5)

AMOUNTS = ((3, 1), (-1, 2), (0, 1), (4, 3), (-7, 1))

# Amounts that are wrong for five cases.
WRONG_AMOUNTS = OTHER_KINDS + (
    0,
    AMOUNTS[:-1],
    AMOUNTS + ((0, 1),),
    list(AMOUNTS),
    tuple(list(pair) for pair in AMOUNTS),
    dict(enumerate(AMOUNTS)),
    str(AMOUNTS),
    (1, 2, 3, 4, 5),
    AMOUNTS[:4] + (1,),
    AMOUNTS[:4] + (None,),
    AMOUNTS[:4] + ((2, 4),),
    AMOUNTS[:4] + ((1, 0),),
    AMOUNTS[:4] + ((1, -1),),
    AMOUNTS[:4] + ((0, 2),),
    AMOUNTS[:4] + ((True, 1),),
    AMOUNTS[:4] + ((1, 2, 3),),
    ((False, 1),) + AMOUNTS[1:],
)


def one_of(kind, labels=LABELS):
    """An observer of this class with LABELS and ODDS, or with even weights for other labels."""
    if kind in WITH_WEIGHTS:
        return kind(labels, WEIGHTS if labels == LABELS else (1,) * len(labels))
    return kind(labels, ODDS if labels == LABELS else Observer.even(labels).odds)


def odds_by_hand(labels, odds, event):
    return tuple(
        pair_of(sum(exact(odds[case]) for case in event if labels[case] == label)) for label in labels
    )


def lines_by_hand(observer, event):
    """The lines of an Observer's report."""
    by_case = odds_by_hand(observer.labels, observer.odds, event)
    return tuple((part, by_case[part[0]]) for part in observer.parts)


class ObserverCase(PromiseCase):

    def stays(self, observer, error, function, *arguments):
        """The call raises this error and the observer stays as it was."""
        before = observer_state(observer)
        self.refuses(error, function, *arguments)
        self.assert_alike(observer_state(observer), before, "after the error")


def assigning(observer, name):
    """A function that assigns this attribute of the observer."""
    def assign(value):
        setattr(observer, name, value)
    return assign


class ConstructorTest(ObserverCase):
    """Points 30 and 31: labels, parts and odds."""

    def test_labels_parts_and_odds(self):
        for kind in WITH_ODDS:
            for labels, odds in GOOD_ODDS:
                observer = kind(labels, odds)
                self.assert_alike(observer.labels, labels)
                self.assert_alike(observer.odds, odds)
                wanted = tuple(
                    tuple(case for case, own in enumerate(labels) if own == label) for label in range(max(labels) + 1)
                )
                self.assert_alike(observer.parts, wanted)

    def test_an_example(self):
        observer = Observer(LABELS, ODDS)
        self.assert_alike(observer.parts, PARTS)

    def test_one_and_twelve_cases(self):
        self.assert_alike(Observer((0,), (ONE,)).parts, ((0,),))
        self.assert_alike(Observer(COARSEST, ((1, 12),) * 12).parts, (FINEST,))
        self.assert_alike(Observer(FINEST, (ONE,) * 12).parts, tuple((case,) for case in FINEST))

    def test_wrong_labels(self):
        for kind in WITH_ODDS:
            for labels in WRONG_LABELS:
                self.refuses(InvalidLabelsError, kind, labels, (ONE,))
            self.refuses(InvalidLabelsError, kind, (0,) * 13, ((1, 13),) * 13)
            self.refuses(InvalidLabelsError, kind, tuple(range(13)), (ONE,) * 13)
            self.refuses(InvalidLabelsError, kind, (0, True), (ONE, ONE))
            self.refuses(InvalidLabelsError, kind, [0, 1], (ONE, ONE))

    def test_wrong_odds(self):
        for kind in WITH_ODDS:
            for odds in WRONG_ODDS:
                self.refuses(InvalidOddsError, kind, LABELS, odds)
            self.refuses(InvalidOddsError, kind, (0,), ((1, 2),))
            self.refuses(InvalidOddsError, kind, (0,), ((2, 2),))
            self.refuses(InvalidOddsError, kind, (0, 0), (HALF, HALF, HALF))
            self.refuses(InvalidOddsError, kind, (0, 0), (ONE, ONE))
            self.refuses(InvalidOddsError, kind, (0, 1), (HALF, HALF))
            self.refuses(InvalidOddsError, kind, COARSEST, ((1, 12),) * 11)
            self.refuses(InvalidOddsError, kind, COARSEST, ((1, 12),) * 13)
            self.refuses(InvalidOddsError, kind, FINEST, (ONE,) * 11 + ((0, 1),))

    def test_labels_come_first(self):
        for kind in WITH_ODDS:
            for labels in WRONG_LABELS:
                for odds in (None, (), [ONE], ((2, 4),), 0):
                    self.refuses(InvalidLabelsError, kind, labels, odds)

    def test_most_cases(self):
        for kind in CLASSES:
            self.assert_alike(kind.MOST_CASES, 12)
            self.assert_alike(one_of(kind).MOST_CASES, 12)


class EvenTest(ObserverCase):
    """Point 30: even."""

    def test_odds_are_equal_in_each_part(self):
        for kind in CLASSES:
            for labels in [labels for labels, odds in GOOD_ODDS]:
                observer = kind.even(labels)
                self.assertIs(type(observer), Observer)
                self.assert_alike(observer.labels, labels)
                self.assert_alike(observer.odds, tuple(pair_of(Fraction(1, labels.count(own))) for own in labels))

    def test_an_example(self):
        self.assert_alike(Observer.even(LABELS).odds, (HALF, HALF, HALF, HALF, ONE))
        self.assert_alike(Observer.even((0, 0, 0)).odds, ((1, 3),) * 3)

    def test_called_on_an_object(self):
        for kind in CLASSES:
            self.assertIs(type(one_of(kind).even((0, 0))), Observer)

    def test_it_reports_as_an_observer(self):
        for kind in CLASSES:
            self.gives((((0, 1), HALF),), kind.even((0, 0)).report, (1,))

    def test_each_call_returns_a_new_one(self):
        one, other = Observer.even((0, 0)), Observer.even((0, 0))
        one.odds = ((1, 3), (2, 3))
        self.assert_alike(other.odds, (HALF, HALF))

    def test_wrong_labels(self):
        for kind in CLASSES:
            for labels in WRONG_LABELS:
                self.refuses(InvalidLabelsError, kind.even, labels)


class AssignOddsTest(ObserverCase):
    """Point 31: assigning odds."""

    def test_by_the_attribute(self):
        for kind in CLASSES:
            observer = one_of(kind)
            for odds in (OTHER_ODDS, ODDS, OTHER_ODDS):
                observer.odds = odds
                self.assert_alike(observer.odds, odds)
                self.assert_alike(observer.labels, LABELS)
                self.assert_alike(observer.parts, PARTS)

    def test_by_the_method(self):
        for kind in CLASSES:
            observer = one_of(kind)
            for odds in (OTHER_ODDS, ODDS, OTHER_ODDS):
                self.gives(None, observer.assign_odds, odds)
                self.assert_alike(observer.odds, odds)

    def test_answers_follow_the_new_odds(self):
        for kind in CLASSES:
            for assign in ("attribute", "method"):
                observer = one_of(kind)
                self.gives(odds_by_hand(LABELS, ODDS, (0, 3)), observer.odds_of, (0, 3))
                if assign == "method":
                    observer.assign_odds(OTHER_ODDS)
                else:
                    observer.odds = OTHER_ODDS
                self.gives((HALF, (4, 5), HALF, (4, 5), (0, 1)), observer.odds_of, (0, 3))
                self.gives(((3, 2), (29, 30), (-7, 1)), observer.expects, AMOUNTS)
                self.assert_alike(observer.report((0, 3))[:3], ((PARTS[0], HALF), (PARTS[1], (4, 5)), (PARTS[2], (0, 1))))
                self.assert_alike(observer.same_as(Observer(LABELS, OTHER_ODDS)), True)
                self.assert_alike(observer.same_as(Observer(LABELS, ODDS)), False)

    def test_one_observer_alone_changes(self):
        one, other = Observer(LABELS, ODDS), Observer(LABELS, ODDS)
        one.odds = OTHER_ODDS
        self.assert_alike(other.odds, ODDS)

    def test_wrong_odds(self):
        for kind in CLASSES:
            observer = one_of(kind)
            for odds in WRONG_ODDS:
                self.stays(observer, InvalidOddsError, assigning(observer, "odds"), odds)
                self.stays(observer, InvalidOddsError, observer.assign_odds, odds)

    def test_odds_of_other_labels(self):
        observer = Observer((0, 0, 1), (HALF, HALF, ONE))
        self.stays(observer, InvalidOddsError, observer.assign_odds, (ONE, HALF, HALF))
        self.stays(observer, InvalidOddsError, observer.assign_odds, ((1, 3),) * 3)


class SameAsTest(ObserverCase):
    """Point 31: same_as."""

    def test_among_all_classes(self):
        for one, other in itertools.product(CLASSES, repeat=2):
            self.assert_alike(one_of(one).same_as(one_of(other)), True)
            observer = one_of(one)
            self.assert_alike(observer.same_as(observer), True)

    def test_other_odds(self):
        for one, other in itertools.product(CLASSES, repeat=2):
            changed = one_of(other)
            changed.odds = OTHER_ODDS
            self.assert_alike(one_of(one).same_as(changed), False)
            self.assert_alike(changed.same_as(one_of(one)), False)
            changed.odds = ODDS
            self.assert_alike(one_of(one).same_as(changed), True)

    def test_other_labels(self):
        # The odds of the first two are equal tuples.
        pairs = (((0, 0, 1, 1), (0, 1, 0, 1)), ((0,), (0, 1)), ((0, 1), (0, 1, 2)), ((0, 0), (0, 1)))
        for one, other in itertools.product(CLASSES, repeat=2):
            for left, right in pairs:
                self.assert_alike(one_of(one, left).same_as(one_of(other, right)), False)
                self.assert_alike(one_of(one, left).same_as(one_of(other, left)), True)

    def test_weights_and_counts_do_not_matter(self):
        one, other = Diarist((0, 0), (1, 1)), Diarist((0, 0), (7, 7))
        one.report(())
        self.assert_alike(one.same_as(other), True)
        other.weights = (1, 2)
        self.assert_alike(one.same_as(other), False)

    def test_other_values(self):
        others = OTHER_KINDS + (0, 1, LABELS, ODDS, (LABELS, ODDS), {"labels": LABELS, "odds": ODDS})
        for kind in CLASSES:
            for value in others:
                self.gives(False, one_of(kind).same_as, value)

    def test_other_objects(self):
        for kind in CLASSES:
            self.assert_alike(one_of(kind).same_as(RoomError("no observer")), False)
            self.assert_alike(one_of(kind).same_as(AGREED), False)


class EventTest(ObserverCase):
    """Points 22 and 32: odds_of and report of events."""

    def test_odds_of_each_event(self):
        for kind in CLASSES:
            for event in subsets(range(5)):
                self.gives(odds_by_hand(LABELS, ODDS, event), one_of(kind).odds_of, event)

    def test_examples(self):
        observer = Observer(LABELS, ODDS)
        self.gives(((0, 1),) * 5, observer.odds_of, ())
        self.gives((ONE,) * 5, observer.odds_of, (0, 1, 2, 3, 4))
        self.gives(((1, 3), (1, 4), (1, 3), (1, 4), (0, 1)), observer.odds_of, (0, 1))
        self.gives(((2, 3), (0, 1), (2, 3), (0, 1), ONE), observer.odds_of, (2, 4))

    def test_observers_of_one_and_twelve_cases(self):
        self.gives(((0, 1),), Observer.even((0,)).odds_of, ())
        self.gives((ONE,), Observer.even((0,)).odds_of, (0,))
        self.gives(((1, 4),) * 12, Observer.even(COARSEST).odds_of, (0, 5, 11))
        self.gives(((0, 1),) * 11 + (ONE,), Observer.even(FINEST).odds_of, (11,))
        self.gives((ONE,) * 12, Observer.even(COARSEST).odds_of, FINEST)
        self.refuses(InvalidEventError, Observer.even(COARSEST).odds_of, (12,))
        self.refuses(InvalidEventError, Observer.even((0,)).odds_of, (1,))

    def test_report_of_each_event(self):
        for kind in CLASSES:
            for event in subsets(range(5)):
                observer = one_of(kind)
                self.assert_alike(observer.report(event)[:3], lines_by_hand(observer, event))

    def test_report_of_an_observer(self):
        observer = Observer(LABELS, ODDS)
        self.gives(((PARTS[0], (0, 1)), (PARTS[1], (0, 1)), (PARTS[2], (0, 1))), observer.report, ())
        self.gives(((PARTS[0], ONE), (PARTS[1], ONE), (PARTS[2], ONE)), observer.report, (0, 1, 2, 3, 4))
        self.gives(((PARTS[0], (2, 3)), (PARTS[1], (0, 1)), (PARTS[2], ONE)), observer.report, (2, 4))

    def test_wrong_events(self):
        for kind in CLASSES:
            observer = one_of(kind)
            for event in WRONG_EVENTS:
                self.stays(observer, InvalidEventError, observer.odds_of, event)
                self.stays(observer, InvalidEventError, observer.report, event)


class AmountsTest(ObserverCase):
    """Point 32: expects."""

    def test_examples(self):
        for kind in CLASSES:
            observer = one_of(kind)
            self.gives(((1, 1), (7, 8), (-7, 1)), observer.expects, AMOUNTS)
            self.gives(((0, 1),) * 3, observer.expects, ((0, 1),) * 5)
            self.gives(((5, 3),) * 3, observer.expects, ((5, 3),) * 5)
            self.gives(((0, 1), (0, 1), (0, 1)), observer.expects, ((2, 1), (3, 1), (-1, 1), (-1, 1), (0, 1)))

    def test_of_large_amounts(self):
        self.gives(((HUGE + 3, 2),), Observer.even((0, 0)).expects, ((HUGE, 1), (3, 1)))
        self.gives(((HUGE, HUGE + 1),), Observer.even((0,)).expects, ((HUGE, HUGE + 1),))

    def test_by_hand(self):
        source = numbers(3)
        for _ in range(60):
            many = next(source) % 12 + 1
            labels = some_labels(source, many)
            observer = weighed(labels, [next(source) % 9 + 1 for _ in labels])
            amounts = tuple(pair_of(Fraction(next(source) % 41 - 20, next(source) % 6 + 1)) for _ in labels)
            wanted = tuple(
                pair_of(sum(exact(observer.odds[case]) * exact(amounts[case]) for case in part))
                for part in observer.parts
            )
            self.gives(wanted, observer.expects, amounts)

    def test_wrong_amounts(self):
        for kind in CLASSES:
            observer = one_of(kind)
            for amounts in WRONG_AMOUNTS:
                self.stays(observer, InvalidAmountsError, observer.expects, amounts)


class WeightsTest(ObserverCase):
    """Point 33: weights."""

    def test_odds_come_from_the_weights(self):
        for kind in WITH_WEIGHTS:
            observer = kind(LABELS, WEIGHTS)
            self.assert_alike(observer.weights, WEIGHTS)
            self.assert_alike(observer.labels, LABELS)
            self.assert_alike(observer.parts, PARTS)
            self.assert_alike(observer.odds, ODDS)

    def test_least_and_greatest_weights(self):
        for kind in WITH_WEIGHTS:
            self.assert_alike(kind((0,), (1,)).odds, (ONE,))
            self.assert_alike(kind((0,), (1000,)).odds, (ONE,))
            self.assert_alike(kind((0, 0), (1, 1000)).odds, ((1, 1001), (1000, 1001)))
            self.assert_alike(kind((0, 1), (1, 1000)).odds, (ONE, ONE))
            self.assert_alike(kind(COARSEST, (1000,) * 12).odds, ((1, 12),) * 12)

    def test_by_hand(self):
        source = numbers(5)
        for _ in range(60):
            labels = some_labels(source, next(source) % 12 + 1)
            weights = tuple(next(source) % 1000 + 1 for _ in labels)
            wanted = weighed(labels, weights).odds
            for kind in WITH_WEIGHTS:
                self.assert_alike(kind(labels, weights).odds, wanted)

    def test_wrong_weights(self):
        for kind in WITH_WEIGHTS:
            for weights in WRONG_WEIGHTS:
                self.refuses(InvalidWeightsError, kind, LABELS, weights)
            self.refuses(InvalidWeightsError, kind, (0,), (1, 1))
            self.refuses(InvalidWeightsError, kind, (0,), (1001,))
            self.refuses(InvalidWeightsError, kind, (0,), (0,))

    def test_labels_come_first(self):
        for kind in WITH_WEIGHTS:
            for labels in WRONG_LABELS:
                for weights in ((1,), None, (0,), [1], (True, 1), (1,) * 13):
                    self.refuses(InvalidLabelsError, kind, labels, weights)

    def test_assigning_weights_changes_the_odds(self):
        for kind in WITH_WEIGHTS:
            for assign in ("attribute", "method"):
                observer = kind(LABELS, (1,) * 5)
                if assign == "method":
                    self.gives(None, observer.assign_weights, WEIGHTS)
                else:
                    observer.weights = WEIGHTS
                self.assert_alike(observer.weights, WEIGHTS)
                self.assert_alike(observer.odds, ODDS)
                self.gives(odds_by_hand(LABELS, ODDS, (0, 3)), observer.odds_of, (0, 3))
                self.assert_alike(observer.report((0, 3))[3], ("own", (1, 3)))

    def test_assigning_odds_leaves_the_weights(self):
        for kind in WITH_WEIGHTS:
            observer = kind(LABELS, WEIGHTS)
            observer.odds = OTHER_ODDS
            self.assert_alike(observer.weights, WEIGHTS)
            self.assert_alike(observer.odds, OTHER_ODDS)
            self.assert_alike(observer.report((0, 3))[3], ("own", (1, 3)))
            observer.weights = WEIGHTS
            self.assert_alike(observer.odds, ODDS)

    def test_assigning_wrong_weights(self):
        for kind in WITH_WEIGHTS:
            observer = kind(LABELS, (1, 2, 3, 4, 5))
            observer.odds = OTHER_ODDS
            for weights in WRONG_WEIGHTS:
                self.stays(observer, InvalidWeightsError, assigning(observer, "weights"), weights)
                self.stays(observer, InvalidWeightsError, observer.assign_weights, weights)


class ReportTest(ObserverCase):
    """Point 33: the reports of the three classes."""

    def test_of_a_believer(self):
        believer = Believer(LABELS, WEIGHTS)
        for event in subsets(range(5)):
            own = pair_of(Fraction(sum(WEIGHTS[case] for case in event), 12))
            self.gives(lines_by_hand(believer, event) + (("own", own),), believer.report, event)

    def test_of_a_believer_line_by_line(self):
        believer = Believer((0, 0, 1), (1, 2, 3))
        self.gives((((0, 1), (2, 3)), ((2,), (0, 1)), ("own", (1, 3))), believer.report, (1,))
        self.gives((((0, 1), (0, 1)), ((2,), (0, 1)), ("own", (0, 1))), believer.report, ())
        self.gives((((0, 1), ONE), ((2,), ONE), ("own", ONE)), believer.report, (0, 1, 2))

    def test_of_a_recorder(self):
        recorder = Recorder((0, 0, 1), ((1, 3), (2, 3), ONE))
        lines = (((0, 1), (2, 3)), ((2,), (0, 1)))
        self.assert_alike(recorder.reports, 0)
        for count in (1, 2, 3):
            self.assert_alike(recorder.report((1,)), lines + (("reports", count),))
            self.assert_alike(recorder.reports, count)

    def test_of_a_diarist(self):
        diarist = Diarist((0, 0, 1), (1, 2, 3))
        lines = (((0, 1), (2, 3)), ((2,), (0, 1)), ("own", (1, 3)))
        self.assert_alike(diarist.reports, 0)
        for count in (1, 2, 3):
            self.assert_alike(diarist.report((1,)), lines + (("reports", count),))
            self.assert_alike(diarist.reports, count)

    def test_a_report_that_raises_is_not_counted(self):
        for kind in (Recorder, Diarist):
            observer = one_of(kind)
            observer.report(())
            for event in WRONG_EVENTS:
                self.stays(observer, InvalidEventError, observer.report, event)
            self.assert_alike(observer.report(())[-1], ("reports", 2))

    def test_nothing_else_is_counted(self):
        for kind in (Recorder, Diarist):
            observer = one_of(kind)
            observer.odds_of((0,))
            observer.expects(AMOUNTS)
            observer.same_as(observer)
            observer.even(LABELS)
            observer.assign_odds(OTHER_ODDS)
            self.assert_alike(observer.reports, 0)

    def test_each_counts_for_itself(self):
        for kind in (Recorder, Diarist):
            one, other = one_of(kind), one_of(kind)
            one.report(())
            one.report((0,))
            self.assert_alike(other.report(())[-1], ("reports", 1))
            self.assert_alike(one.report(())[-1], ("reports", 3))
            self.assert_alike((one.reports, other.reports), (3, 1))


class ObserversInterfaceTest(ObserverCase):

    def test_who_is_whom(self):
        bases = {
            Observer: (Observer,),
            Believer: (Observer, Believer),
            Recorder: (Observer, Recorder),
            Diarist: CLASSES,
        }
        for kind, above in bases.items():
            for other in CLASSES:
                self.assertEqual(issubclass(kind, other), other in above)

    def test_signatures(self):
        wanted = {
            Observer: "(labels, odds)",
            Believer: "(labels, weights)",
            Recorder: "(labels, odds)",
            Diarist: "(labels, weights)",
        }
        for kind, parameters in wanted.items():
            self.assertEqual(kind.__module__, observers.__name__)
            self.assertEqual(str(inspect.signature(kind)), parameters)

    def test_methods_stand_in_their_class(self):
        common = {
            "assign_odds": "(self, odds)",
            "odds_of": "(self, event)",
            "expects": "(self, amounts)",
            "report": "(self, event)",
            "same_as": "(self, other)",
        }
        with_odds = {**common, "__init__": "(self, labels, odds)"}
        with_weights = {**common, "__init__": "(self, labels, weights)", "assign_weights": "(self, weights)"}
        for kind in CLASSES:
            for name, parameters in (with_weights if kind in WITH_WEIGHTS else with_odds).items():
                self.assertIn(name, vars(kind), kind.__name__)
                self.assertEqual(str(inspect.signature(vars(kind)[name])), parameters)
            self.assertIsInstance(vars(kind)["even"], classmethod)
            self.assertEqual(str(inspect.signature(kind.even)), "(labels)")

    def test_a_diarist_is_made_in_its_own_class(self):
        diarist = Diarist((0, 0, 1), (1, 2, 3))
        self.assert_alike(
            (diarist.labels, diarist.parts, diarist.odds, diarist.weights, diarist.reports),
            ((0, 0, 1), ((0, 1), (2,)), ((1, 3), (2, 3), ONE), (1, 2, 3), 0),
        )
        with self.assertRaises(TypeError):
            Diarist((0, 0, 1))
        self.assert_alike(Diarist(labels=(0,), weights=(7,)).weights, (7,))

    def test_attributes_are_there_from_the_beginning(self):
        for kind in CLASSES:
            names = ["labels", "parts", "odds"]
            names += ["weights"] * (kind in WITH_WEIGHTS) + ["reports"] * (kind in (Recorder, Diarist))
            for name in names:
                self.assertTrue(hasattr(one_of(kind), name), f"{kind.__name__}: {name}")


if __name__ == "__main__":
    unittest.main()
