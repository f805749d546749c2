"""Observers: they know the part in which they lie, and have odds for its cases."""

from wagerroom.cells import check_labels, parts_of
from wagerroom.errors import InvalidAmountsError, InvalidOddsError, InvalidWeightsError
from wagerroom.events import check_event
from wagerroom.kinds import is_whole
from wagerroom.ratios import fraction, is_positive_fraction, is_row, total_at, total_of_products

MOST_WEIGHT = 1000


def are_odds(value, labels, parts):
    """Return whether any value is odds for the labels, which have these parts."""
    if not isinstance(value, tuple) or len(value) != len(labels):
        return False
    if not all([is_positive_fraction(entry) for entry in value]):
        return False
    return all([total_at(value, part) == (1, 1) for part in parts])


def is_weight(value):
    """Return whether any value is the weight of a case."""
    return is_whole(value) and 1 <= value <= MOST_WEIGHT


def check_weights(value, labels):
    """Raise InvalidWeightsError if the value is not weights for the labels."""
    if not isinstance(value, tuple) or len(value) != len(labels):
        raise InvalidWeightsError("not a tuple with one weight for each case")
    if not all([is_weight(entry) for entry in value]):
        raise InvalidWeightsError("a weight is not an integer from 1 to 1000")


def weighed_odds(labels, weights):
    """Return the odds that are the weights divided by their sum in the part."""
    wholes = [sum([weights[case] for case in part]) for part in parts_of(labels)]
    return tuple([fraction(weight, wholes[label]) for label, weight in zip(labels, weights)])


def even_observer(labels):
    """Return an Observer whose odds are equal within each part."""
    check_labels(labels)
    return Observer(labels, weighed_odds(labels, (1,) * len(labels)))


# By rule L5 each of the four classes defines the methods that the interface
# lists for it, also where it only passes them on to the class above.


class Observer:
    """An observer with a partition of the cases and odds for the cases of each part."""

    MOST_CASES = 12

    def __init__(self, labels, odds):
        self.parts = parts_of(labels)
        self.labels = labels
        self.odds = odds

    @classmethod
    def even(cls, labels):
        """Return an Observer, whatever cls is, whose odds are equal within each part."""
        return even_observer(labels)

    @property
    def odds(self):
        """The odds of each case in its part."""
        return self.held_odds

    @odds.setter
    def odds(self, value):
        if not are_odds(value, self.labels, self.parts):
            raise InvalidOddsError("not positive fractions that add up to 1 in each part")
        self.held_odds = value

    def assign_odds(self, odds):
        """Assign the odds."""
        self.odds = odds

    def same_as(self, other):
        """Return whether any value is an observer with equal labels and odds."""
        return isinstance(other, Observer) and self.labels == other.labels and self.odds == other.odds

    def odds_in_parts(self, event):
        """Return the odds of the event in each part."""
        check_event(event, len(self.labels))
        inside = [[case for case in part if case in event] for part in self.parts]
        return [total_at(self.odds, cases) for cases in inside]

    def odds_of(self, event):
        """Return for each case the odds of the event in the part of this case."""
        found = self.odds_in_parts(event)
        return tuple([found[label] for label in self.labels])

    def expects(self, amounts):
        """Return for each part the sum of odds times amount over its cases."""
        if not is_row(amounts, len(self.labels)):
            raise InvalidAmountsError("not a tuple with one fraction for each case")
        return tuple([total_of_products(self.odds, amounts, part) for part in self.parts])

    def part_lines(self, event):
        """Return the lines that every report begins with, one for each part."""
        return tuple(zip(self.parts, self.odds_in_parts(event)))

    def report(self, event):
        """Return one line for each part: its cases and the odds of the event there."""
        return self.part_lines(event)


class Believer(Observer):
    """An observer whose odds come from its own weights of the cases."""

    def __init__(self, labels, weights):
        # Observer checks labels too, but only after the odds are made of the weights.
        check_labels(labels)
        check_weights(weights, labels)
        super().__init__(labels, weighed_odds(labels, weights))
        self.held_weights = weights

    @classmethod
    def even(cls, labels):
        """Return an Observer, whatever cls is, whose odds are equal within each part."""
        return even_observer(labels)

    @property
    def weights(self):
        """The weight of each case."""
        return self.held_weights

    @weights.setter
    def weights(self, value):
        check_weights(value, self.labels)
        self.held_weights = value
        self.held_odds = weighed_odds(self.labels, value)

    def assign_weights(self, weights):
        """Assign the weights, and with them the odds."""
        self.weights = weights

    def assign_odds(self, odds):
        """Assign the odds, and leave the weights."""
        self.odds = odds

    def odds_of(self, event):
        """Return for each case the odds of the event in the part of this case."""
        return super().odds_of(event)

    def expects(self, amounts):
        """Return for each part the sum of odds times amount over its cases."""
        return super().expects(amounts)

    def same_as(self, other):
        """Return whether any value is an observer with equal labels and odds."""
        return super().same_as(other)

    def report(self, event):
        """Return the lines of an Observer, and the share of the weights that the event has."""
        lines = self.part_lines(event)
        share = fraction(sum([self.weights[case] for case in event]), sum(self.weights))
        return (*lines, ("own", share))


class Recorder(Observer):
    """An observer that counts its reports."""

    def __init__(self, labels, odds):
        super().__init__(labels, odds)
        self.reports = 0

    @classmethod
    def even(cls, labels):
        """Return an Observer, whatever cls is, whose odds are equal within each part."""
        return even_observer(labels)

    def assign_odds(self, odds):
        """Assign the odds."""
        self.odds = odds

    def odds_of(self, event):
        """Return for each case the odds of the event in the part of this case."""
        return super().odds_of(event)

    def expects(self, amounts):
        """Return for each part the sum of odds times amount over its cases."""
        return super().expects(amounts)

    def same_as(self, other):
        """Return whether any value is an observer with equal labels and odds."""
        return super().same_as(other)

    def counted_line(self):
        """Count one more report and return the line that tells the count."""
        self.reports += 1
        return ("reports", self.reports)

    def report(self, event):
        """Return the lines of an Observer, and the count of the reports."""
        # The line is asked for last: a report that raises is not counted.
        lines = self.part_lines(event)
        return (*lines, self.counted_line())


class Diarist(Believer, Recorder):
    """A Believer that counts its reports."""

    def __init__(self, labels, weights):
        super().__init__(labels, weights)

    @classmethod
    def even(cls, labels):
        """Return an Observer, whatever cls is, whose odds are equal within each part."""
        return even_observer(labels)

    def assign_weights(self, weights):
        """Assign the weights, and with them the odds."""
        self.weights = weights

    def assign_odds(self, odds):
        """Assign the odds, and leave the weights."""
        self.odds = odds

    def odds_of(self, event):
        """Return for each case the odds of the event in the part of this case."""
        return super().odds_of(event)

    def expects(self, amounts):
        """Return for each part the sum of odds times amount over its cases."""
        return super().expects(amounts)

    def same_as(self, other):
        """Return whether any value is an observer with equal labels and odds."""
        return super().same_as(other)

    def report(self, event):
        """Return the lines of a Believer, and the count of the reports."""
        lines = super().report(event)
        return (*lines, self.counted_line())
