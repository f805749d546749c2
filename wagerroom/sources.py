"""Sources: distributions from which all odds in a region come, or walks that show there is none."""

from wagerroom.errors import InvalidWalkError
from wagerroom.ratios import is_row, shares
from wagerroom.scenes import Scene
from wagerroom.walks import bad_walk, is_bad_walk, is_walk, steps_in, walk_ratio, walks_from, weights_or_walk


def source(room, region):
    """Return ("source", fractions), or ("walk", steps) with a bad walk if there is no source."""
    scene = Scene(room)
    cases = scene.region_cases(region)
    weights, walk = weights_or_walk(scene, cases, steps_in(scene.parts_in(cases)))
    if walk is not None:
        return ("walk", walk)
    return ("source", shares([weights[case] for case in cases]))


def certifies(room, region, value):
    """Return whether any value is the source of the region, or a bad walk in it, as source gives it."""
    scene = Scene(room)
    cases = scene.region_cases(region)
    if not isinstance(value, tuple) or len(value) != 2:
        return False
    if value[0] == "walk":
        return is_bad_walk(scene, cases, value[1])
    # True equals 1, so the kinds of the entries are looked at, too.
    return is_row(value[1], len(cases)) and value == source(room, region)


def walk_product(room, walk):
    """Return the product of the ratios of a walk, closed or not."""
    scene = Scene(room)
    if not is_walk(scene, walk):
        raise InvalidWalkError("not a walk through present cases")
    return walk_ratio(scene, walk)


def shortest_walk(room, region):
    """Return a bad walk of the region with as few steps as possible, or None."""
    scene = Scene(room)
    cases = scene.region_cases(region)
    steps = steps_in(scene.parts_in(cases))
    found = [bad_walk(scene, walks_from(case, steps), steps) for case in cases]
    return min([walk for walk in found if walk is not None], key=len, default=None)
