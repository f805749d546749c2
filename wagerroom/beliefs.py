"""Steady sets: events on which all observers can rely together."""

from wagerroom.errors import InvalidEventError, InvalidFractionError
from wagerroom.events import check_event
from wagerroom.ratios import compare, is_positive_fraction
from wagerroom.scenes import Scene


def check_bound(p):
    """Raise InvalidFractionError if any value is not a fraction above 0 and at most 1."""
    if not is_positive_fraction(p) or compare(p, (1, 1)) > 0:
        raise InvalidFractionError("not a fraction above 0 and at most 1")


def sure_cases(scene, event, p):
    """Return the tuple of the present cases at which each observer's odds of the event are at least p."""
    doubted = {}
    for number, part in scene.parts_in(scene.present):
        if compare(scene.odds_among(number, part, event), p) < 0:
            doubted.update({case: True for case in part})
    return tuple([case for case in scene.present if case not in doubted])


def steady_within(scene, cases, p):
    """Return the largest p-steady set that lies in a tuple of present cases."""
    kept = ()
    # A case that is doubted is in no p-steady set of these cases. Without it
    # others may be doubted, too.
    while kept != cases:
        kept = cases
        sure = sure_cases(scene, kept, p)
        cases = tuple([case for case in kept if case in sure])
    return kept


def is_steady(room, cases, p):
    """Return whether an event of present cases is p-steady."""
    scene = Scene(room)
    check_event(cases, scene.many)
    if not all([case in scene.present for case in cases]):
        raise InvalidEventError("a case is not present")
    check_bound(p)
    return steady_within(scene, cases, p) == cases


def steady(room, event, p):
    """Return the largest p-steady set of present cases that lies in the event."""
    scene = Scene(room)
    check_event(event, scene.many)
    check_bound(p)
    return steady_within(scene, tuple([case for case in event if case in scene.present]), p)


def common(room, event, p):
    """Return the largest p-steady set at each of whose cases all odds of the event are at least p."""
    scene = Scene(room)
    check_event(event, scene.many)
    check_bound(p)
    return steady_within(scene, sure_cases(scene, event, p), p)
