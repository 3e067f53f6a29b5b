"""Places: where open calls stand beside the newest texts, and what is kept for them."""

from callsover.ahead import latests_of
from callsover.grounds import Ground
from callsover.stands import stands_of


class Survey:
    """The places of all open calls, the kept classes, and the results that can come."""

    def __init__(self, newest, stacks, base):
        spread = newest_calls(newest, base)
        open_calls = [call for stack in stacks.values() for call in stack]
        self.ground = Ground([call for place, call in spread] + open_calls, base)
        # By classes of alike stands: the least newest stand, and the number among the kept classes.
        self.new_places = {}
        for place, call in spread:
            self.new_places.setdefault(self.ground.classes[self.ground.spot(call)], place)
        self.kept_numbers = {}
        self.kept_spots = []
        self.places = {}
        self.coming = {}
        for run in stacks:
            outlook = self.ground.outlook(stacks[run])
            self.places[run] = self.places_of(outlook)
            self.coming[run] = [results for entries, results in outlook]
        self.entries = self.kept_entries()
        self.latests = latests_of(self.entries)

    def place_at(self, spot):
        """The place of the stand at a spot; a class that is met for the first time is numbered."""
        if self.ground.table[spot][0] == ("mute",):
            return ("mute",)
        group = self.ground.classes[spot]
        if group in self.new_places:
            return self.new_places[group]
        if group not in self.kept_numbers:
            self.kept_numbers[group] = len(self.kept_spots)
            self.kept_spots.append(spot)
        return ("kept", self.kept_numbers[group])

    def places_of(self, outlook):
        """The places of the calls of a stack, from the lowest on."""
        places = [("waits", self.waiting_places(entries)) for entries, results in outlook[:-1]]
        entries, results = outlook[-1]
        places.append(self.place_at(entries[0]))
        return places

    def waiting_places(self, entries):
        """The places at which a waiting call can continue."""
        return tuple([None if entry is None else self.place_at(entry) for entry in entries])

    def kept_entries(self):
        """The kept classes, those met so far and those that they lead to."""
        entries = []
        while len(entries) < len(self.kept_spots):
            deed, targets = self.ground.table[self.kept_spots[len(entries)]]
            entries.append((deed, tuple([self.place_at(target) for target in targets])))
        return entries


def newest_calls(newest, base):
    """The newest stands, ascending, each as (place, call)."""
    found = []
    for name in sorted(newest):
        text = newest[name]
        for stand in stands_of(text, base=base):
            found.append((("new", name, *stand), (text, stand)))
    return found
