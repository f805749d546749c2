"""Observers written as lines of the text of a room."""

from wagerroom.errors import InvalidLabelsError, InvalidOddsError, InvalidTextError
from wagerroom.observers import Observer
from wagerroom.texts import format_fraction, parse_fraction


def line_of(observer):
    """Return the line of an observer: its parts, each as its cases with their odds."""
    odds = observer.odds
    parts = [[f"{case}:{format_fraction(odds[case])}" for case in part] for part in observer.parts]
    return " | ".join([" ".join(part) for part in parts])


def observer_of(line, many):
    """Return the Observer of so many cases that a line describes.

    Cases may be left over, doubled or out of order: the caller compares the
    line with the one that is written for the observer.
    """
    labels = {}
    odds = {}
    for label, part in enumerate(line.split(" | ")):
        for entry in part.split(" "):
            word, colon, worth = entry.partition(":")
            labels[word] = label
            odds[word] = parse_fraction(worth)
    names = [str(case) for case in range(many)]
    if not all([name in odds for name in names]):
        raise InvalidTextError("a case is missing in the line of an observer")
    try:
        return Observer(tuple([labels[name] for name in names]), tuple([odds[name] for name in names]))
    except (InvalidLabelsError, InvalidOddsError):
        raise InvalidTextError("a line does not describe an observer") from None


def observers_in(text):
    """Return the list of the observers in the text of a room."""
    first, *lines = text.split("\n")
    heads = [f"{many} cases" for many in range(1, Observer.MOST_CASES + 1)]
    if first not in heads:
        raise InvalidTextError("the first line does not tell the number of cases")
    return [observer_of(line, heads.index(first) + 1) for line in lines]
