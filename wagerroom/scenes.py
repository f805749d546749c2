"""What a room shows at the moment of a call."""

from wagerroom.errors import InvalidRegionError
from wagerroom.kinds import is_whole


class Scene:
    """The present cases, the regions and the observers of a room."""

    def __init__(self, room):
        # Asked for once, since a room works its regions out anew each time.
        self.cases = room.cases
        self.regions = room.regions
        self.observers = room.observers

    def region_cases(self, region):
        """Return the cases of the region with this number."""
        if not is_whole(region) or not 0 <= region < len(self.regions):
            raise InvalidRegionError("not the number of a region")
        return self.regions[region]

    def parts_in(self, cases):
        """Return the parts in a region, each as the number of its observer and its present cases."""
        found = []
        for number, observer in enumerate(self.observers):
            for part in observer.parts:
                inside = tuple([case for case in part if case in cases])
                if inside:
                    found.append((number, inside))
        return found
