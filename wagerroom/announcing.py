"""Announcements: the observers tell their odds of an event, and what everybody learns from it."""

from wagerroom.cells import labelled
from wagerroom.errors import InvalidGroupError
from wagerroom.events import check_event
from wagerroom.kinds import is_whole
from wagerroom.scenes import Scene


def announced(scene, event, labels, observer):
    """Return the odds of the event that an observer announces, one fraction for each present case."""
    own = [scene.observers[observer].labels[case] for case in scene.present]
    # By now the observer knows its part and the part of the public partition.
    cells = list(zip(own, labels))
    found = {}
    for cell in cells:
        if cell not in found:
            inside = [case for case, other in zip(scene.present, cells) if other == cell]
            found[cell] = scene.odds_among(observer, inside, event)
    return tuple([found[cell] for cell in cells])


def after(labels, fractions):
    """Return the labels of the public partition after the announcement of these fractions."""
    return labelled(list(zip(labels, fractions)))


def turns_of(scene, order):
    """Return the numbers of the observers in the order in which they announce."""
    everyone = tuple(range(len(scene.observers)))
    if not isinstance(order, tuple) or not all([is_whole(number) for number in order]):
        raise InvalidGroupError("not a tuple of numbers of observers")
    if order == ():
        return everyone
    if tuple(sorted(order)) != everyone:
        raise InvalidGroupError("the order does not contain each observer once")
    return order


def announcements(room, event, *, order=()):
    """Yield (observer, fractions, labels) for each announcement, until no more is news."""
    scene = Scene(room)
    check_event(event, scene.many)
    turns = turns_of(scene, order)
    labels = (0,) * len(scene.present)
    told = 0
    silent = 0
    while silent < len(turns):
        observer = turns[told % len(turns)]
        fractions = announced(scene, event, labels, observer)
        before = labels
        labels = after(before, fractions)
        told += 1
        silent = silent + 1 if labels == before else 0
        yield (observer, fractions, labels)


def settled(room, event, *, order=()):
    """Return the labels of the public partition when the announcements have stopped."""
    labels = ()
    for news in announcements(room, event, order=order):
        labels = news[2]
    return labels


def news_in(scene, event, labels):
    """Return the list of (observer, labels afterwards) for each announcement that would be news."""
    found = []
    for observer in range(len(scene.observers)):
        changed = after(labels, announced(scene, event, labels, observer))
        if changed != labels:
            found.append((observer, changed))
    return found


def public_partitions(room, event):
    """Return the labels to which announcements can lead.

    Each has the least of the shortest tuples of observers that lead to it, and
    the news that there would be then. The shorter tuples come first, and the
    lesser ones of equal length.
    """
    scene = Scene(room)
    check_event(event, scene.many)
    start = (0,) * len(scene.present)
    ways = {start: ()}
    news = {}
    border = [start]
    while border:
        reached = []
        for labels in border:
            found = news_in(scene, event, labels)
            news[labels] = found
            for observer, changed in found:
                if changed not in ways:
                    ways[changed] = ways[labels] + (observer,)
                    reached.append(changed)
        border = reached
    return [(labels, ways[labels], news[labels]) for labels in ways]


def ends(room, event):
    """Return the labels of all quiet public partitions to which announcements can lead."""
    return tuple(sorted([labels for labels, way, news in public_partitions(room, event) if not news]))


def fewest(room, event):
    """Return the least of the shortest tuples of observers that lead to a quiet public partition."""
    quiet = [way for labels, way, news in public_partitions(room, event) if not news]
    return min(quiet, key=lambda way: (len(way), way))
