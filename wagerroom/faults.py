"""Faults: parts whose odds can be mended, so that their region has a source."""

from wagerroom.errors import InvalidCaseError, OutOfRangeError
from wagerroom.kinds import is_number_of, is_whole
from wagerroom.ratios import shares
from wagerroom.scenes import Scene
from wagerroom.walks import steps_in, weights_or_walk

MOST_FAULTS = 3


def part_of(scene, observer, case):
    """Return the present cases of the part that this observer and any value name."""
    for number, part in scene.parts_in(scene.present):
        if number == observer and is_whole(case) and part[0] == case:
            return part
    raise InvalidCaseError("not the least present case of a part of this observer")


def weights_without(scene, parts, names, roots):
    """Return what weights_or_walk does if there are no links but those of the parts without these names."""
    steps = steps_in([(number, part) for number, part in parts if (number, part[0]) not in names])
    return weights_or_walk(scene, roots, steps)


def mended(room, observer, case):
    """Return ("odds", fractions) that mend a part, or ("walk", steps) with a bad walk that has no step in it."""
    room.check_number(observer)
    scene = Scene(room)
    part = part_of(scene, observer, case)
    region = [cases for cases in scene.regions if case in cases][0]
    # Each piece of the region has a case of the part, and the least one gets the weight 1.
    weights, walk = weights_without(scene, scene.parts_in(region), [(observer, case)], part)
    if walk is not None:
        return ("walk", walk)
    return ("odds", shares([weights[place] for place in part]))


def faults(room, region):
    """Return the names (observer, case) of the parts of the region that can be mended."""
    scene = Scene(room)
    parts = scene.parts_in(scene.region_cases(region))
    return tuple([(number, part[0]) for number, part in parts if mended(room, number, part[0])[0] == "odds"])


def names_along(parts, walk):
    """Return the list of the names of the parts in which the walk has a step."""
    touched = {(observer, case): True for observer, case, after in walk}
    return [(number, part[0]) for number, part in parts if any([(number, case) in touched for case in part])]


def fewest_faults(room, region, most):
    """Return the least tuple of the fewest parts that can be mended together, or None if most are too few."""
    scene = Scene(room)
    cases = scene.region_cases(region)
    if not is_number_of(most, MOST_FAULTS + 1):
        raise OutOfRangeError("not an integer from 0 to 3")
    parts = scene.parts_in(cases)
    tried = [()]
    for many in range(most + 1):
        walks = {names: weights_without(scene, parts, names, cases)[1] for names in tried}
        found = [names for names in tried if walks[names] is None]
        if found:
            return min(found)
        # Whichever parts are mended, one of them is on the bad walk: otherwise it stays bad.
        further = {}
        for names in tried:
            for name in names_along(parts, walks[names]):
                further[tuple(sorted([*names, name]))] = True
        tried = list(further)
    return None
