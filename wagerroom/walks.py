"""Steps (observer, case, next) and walks through the present cases of a room."""

from wagerroom.kinds import is_whole
from wagerroom.ratios import product, quotient


def is_step(scene, value):
    """Return whether any value is a step between present cases."""
    if not isinstance(value, tuple) or len(value) != 3:
        return False
    if not all([is_whole(entry) for entry in value]):
        return False
    observer, case, after = value
    if not 0 <= observer < len(scene.observers):
        return False
    if case not in scene.present or after not in scene.present:
        return False
    labels = scene.observers[observer].labels
    return labels[case] == labels[after]


def is_walk(scene, value):
    """Return whether any value is a walk, closed or not."""
    if not isinstance(value, tuple) or len(value) == 0:
        return False
    if not all([is_step(scene, entry) for entry in value]):
        return False
    return all([one[2] == other[1] for one, other in zip(value, value[1:])])


def step_ratio(scene, step):
    """Return the odds of the case to which the step leads divided by those of the other one."""
    observer, case, after = step
    # The present odds have the same ratio: they are these divided by one sum.
    odds = scene.observers[observer].odds
    return quotient(odds[after], odds[case])


def walk_ratio(scene, walk):
    """Return the product of the ratios of the steps, of which there may be none."""
    ratios = [step_ratio(scene, step) for step in walk]
    return product(*ratios)


def is_bad_walk(scene, cases, value):
    """Return whether any value is a bad walk in the region of these cases."""
    if not is_walk(scene, value) or value[0][1] != value[-1][2]:
        return False
    # One case is enough: no step leads out of a region.
    return value[0][1] in cases and walk_ratio(scene, value) != (1, 1)


def steps_in(parts):
    """Return the list of all steps within the parts that lead to another case."""
    return [
        (observer, case, after)
        for observer, part in parts
        for case in part
        for after in part
        if case != after
    ]


def walks_from(root, steps):
    """Return, for each case to which the steps lead, steps from root to it, as few as possible."""
    walks = {root: ()}
    border = [root]
    while border:
        reached = []
        for case in border:
            for step in steps:
                if step[1] == case and step[2] not in walks:
                    walks[step[2]] = walks[case] + (step,)
                    reached.append(step[2])
        border = reached
    return walks


def backwards(walk):
    """Return the walk in the other direction."""
    return tuple([(observer, after, case) for observer, case, after in reversed(walk)])


def weights_along(scene, walks):
    """Return the weight that the walks give to each case to which they lead, 1 where they begin."""
    return {case: walk_ratio(scene, walks[case]) for case in walks}


def bad_walk(scene, walks, steps):
    """Return a shortest bad walk among those that begin where the given ones do, or None."""
    # If all steps agree with the weights that the walks give, no walk is bad. A
    # bad walk has a step that disagrees, and the shortest way to its case and
    # back from its next one is that of the walks.
    weights = weights_along(scene, walks)
    found = []
    for step in steps:
        case, after = step[1], step[2]
        if case in weights and product(weights[case], step_ratio(scene, step)) != weights[after]:
            found.append(walks[case] + (step,) + backwards(walks[after]))
    return min(found, key=len, default=None)


def weights_or_walk(scene, roots, steps):
    """Return (weights, None), or (weights, walk) with a bad walk of these steps.

    The steps lead to pieces of the region. If there is no bad walk, each case
    of a piece has a weight, and the first root in the piece has the weight 1.
    """
    weights = {}
    for root in roots:
        if root not in weights:
            walks = walks_from(root, steps)
            walk = bad_walk(scene, walks, steps)
            if walk is not None:
                return (weights, walk)
            weights.update(weights_along(scene, walks))
    return (weights, None)
