"""What a room shows at the moment of a call."""

from wagerroom.errors import InvalidRegionError
from wagerroom.kinds import is_number_of
from wagerroom.ratios import quotient, total_at


class Scene:
    """The present cases, the regions and the observers of a room."""

    def __init__(self, room):
        self.present = room.cases
        self.regions = room.regions
        self.observers = room.observers
        self.many = len(room.observers[0].labels)

    def region_cases(self, region):
        """Return the cases of the region with this number."""
        if not is_number_of(region, len(self.regions)):
            raise InvalidRegionError("not the number of a region")
        return self.regions[region]

    def parts_in(self, cases):
        """Return the parts in a region or in all present cases, ordered by observers and least cases.

        Each is a tuple of the number of its observer and the tuple of its present cases.
        """
        found = []
        for number, observer in enumerate(self.observers):
            inside = [tuple([case for case in part if case in cases]) for part in observer.parts]
            # Where cases are absent, the parts may follow one another in another order.
            found.extend([(number, part) for part in sorted(inside) if part])
        return found

    def odds_among(self, number, cases, event):
        """Return the odds of the event that an observer has if it knows that one of these cases holds."""
        odds = self.observers[number].odds
        return quotient(total_at(odds, [case for case in cases if case in event]), total_at(odds, cases))
