"""Wagers: amounts that add up to 0 in each case and that every observer welcomes."""

from wagerroom.errors import InvalidAmountsError, InvalidFractionError
from wagerroom.ratios import (
    is_positive_fraction, is_row, negative, product, quotient, total, total_at, total_of_products,
)
from wagerroom.scenes import Scene
from wagerroom.walks import backwards, bad_walk, step_ratio, steps_in, walk_ratio, walks_from


def passed_on(scene, walk, amount):
    """Return the changes (observer, case, amount) that pass an amount on along a walk.

    The amount is taken at the beginning, and arrives at the end divided by the
    ratio of the walk. No observer expects more or less because of it.
    """
    changes = []
    for step in walk:
        observer, case, after = step
        changes.append((observer, case, negative(amount)))
        amount = quotient(amount, step_ratio(scene, step))
        changes.append((observer, after, amount))
    return changes


def gathered(scene, cases, changes):
    """Return the amounts of the region that the changes add up to."""
    sums = {(number, case): (0, 1) for number in range(len(scene.observers)) for case in cases}
    for observer, place, amount in changes:
        sums[(observer, place)] = total(sums[(observer, place)], amount)
    return tuple([tuple([sums[(number, case)] for case in cases]) for number in range(len(scene.observers))])


def wager(room, region, *, gain=(1, 1)):
    """Return a wager in which each observer expects the gain in each part, or None."""
    scene = Scene(room)
    cases = scene.region_cases(region)
    if not is_positive_fraction(gain):
        raise InvalidFractionError("the gain is not a positive fraction")
    parts = scene.parts_in(cases)
    steps = steps_in(parts)
    walks = walks_from(cases[0], steps)
    turn = bad_walk(scene, walks, steps)
    if turn is None:
        return None
    # Each part gets its gain at its least case, and what this adds to the case
    # is passed on to the first case of the region.
    changes = []
    rest = (0, 1)
    for number, part in parts:
        odds = scene.observers[number].odds
        given = product(gain, quotient(total_at(odds, part), odds[part[0]]))
        way = backwards(walks[part[0]])
        changes = changes + [(number, part[0], given)] + passed_on(scene, way, given)
        rest = total(rest, quotient(given, walk_ratio(scene, way)))
    # An amount that goes round the bad walk comes back as another one: this one
    # comes back smaller by the rest.
    lost = total((1, 1), negative(quotient((1, 1), walk_ratio(scene, turn))))
    return gathered(scene, cases, changes + passed_on(scene, turn, quotient(rest, lost)))


def are_amounts(scene, cases, value):
    """Return whether any value is amounts of the region of these cases."""
    if not isinstance(value, tuple) or len(value) != len(scene.observers):
        return False
    return all([is_row(row, len(cases)) for row in value])


def expectations(scene, cases, amounts):
    """Return for each observer the tuple of what it expects in its parts in the region."""
    found = [[] for observer in scene.observers]
    for number, part in scene.parts_in(cases):
        odds = scene.observers[number].odds
        row = dict(zip(cases, amounts[number]))
        # Divided by their sum in the part, the odds are the present ones.
        found[number].append(quotient(total_of_products(odds, row, part), total_at(odds, part)))
    return tuple([tuple(row) for row in found])


def is_wager(room, region, value):
    """Return whether any value is a wager of the region."""
    scene = Scene(room)
    cases = scene.region_cases(region)
    if not are_amounts(scene, cases, value):
        return False
    for column in zip(*value):
        if total(*column) != (0, 1):
            return False
    rows = expectations(scene, cases, value)
    return all([is_positive_fraction(amount) for row in rows for amount in row])


def expected(room, region, amounts):
    """Return for each observer what it expects of the amounts in each of its parts in the region."""
    scene = Scene(room)
    cases = scene.region_cases(region)
    if not are_amounts(scene, cases, amounts):
        raise InvalidAmountsError("not a tuple of fractions for each observer and case")
    return expectations(scene, cases, amounts)
