"""Places: where open calls stand beside the newest texts, and what is kept for them."""

from callsover.lore import Lore
from callsover.newest import Newest

# More texts than two houses can need at a time, and more previews than are asked for in turn.
MOST_TEXTS = 256
MOST_PREVIEWS = 16


class Numbering:
    """The numbers of kept classes, in the order in which they are met."""

    def __init__(self, newest):
        self.newest = newest
        self.order = []
        # By classes, the places that were met.
        self.shown = {}

    def place_at(self, number):
        """The place of a class; a kept one that is met for the first time is numbered."""
        if number not in self.shown:
            place = self.newest.place_of(number)
            if place is None:
                place = ("kept", len(self.order))
                self.order.append(number)
            self.shown[number] = place
        return self.shown[number]

    def places_of(self, outlook):
        """The places of the calls of a stack, from the lowest on."""
        places = [("waits", self.waiting_places(entries)) for entries, results in outlook[:-1]]
        entries, results = outlook[-1]
        places.append(self.place_at(entries[0]))
        return places

    def waiting_places(self, entries):
        """The places at which a waiting call can continue."""
        return tuple([None if entry is None else self.place_at(entry) for entry in entries])

    def kept_entries(self):
        """The kept classes, those met so far and those that they lead to."""
        entries = []
        while len(entries) < len(self.order):
            deed, targets = self.newest.lore.table[self.order[len(entries)]]
            entries.append((deed, tuple([self.place_at(target) for target in targets])))
        return entries


class Survey:
    """What was found out about the places in a house.

    What it looked at is noted, so that only what has changed is looked at anew.
    """

    def __init__(self, base):
        self.lore = Lore(base)
        # The number of deeds that the house had done when it was looked at, None if it was not.
        self.deeds_seen = None
        self.newest = None
        # By (name, text): what would be known of the newest texts with this one.
        self.previews = {}
        # By open runs: the calls from the lowest to the top, and where they go on.
        self.stacks = {}
        self.outlooks = {}
        # What follows from the newest texts and the stacks, as far as it was asked for.
        self.numbering = None
        self.places = None
        self.entries = None

    def twin_survey(self):
        """A survey that has found out the same, independent of this one."""
        other = Survey(self.lore.base)
        other.lore = self.lore.twin_lore()
        other.deeds_seen = self.deeds_seen
        if self.newest is not None:
            other.newest = self.newest.twin_newest(other.lore)
        other.stacks = {run: list(self.stacks[run]) for run in self.stacks}
        other.outlooks = {run: list(self.outlooks[run]) for run in self.outlooks}
        return other

    def is_full(self):
        """Tell whether so many texts were looked at that it is time to begin anew."""
        return len(self.lore.sheets) > MOST_TEXTS

    def look(self, parts, stacks):
        """Look at the newest texts and the open calls."""
        if self.newest is None or self.newest.parts != parts:
            self.newest = self.newest_of(parts)
            self.previews = {}
            self.places = None
            self.entries = None
        if self.stacks != stacks:
            self.look_at_stacks(stacks)
            self.places = None
            self.entries = None

    def newest_of(self, parts):
        """What is known of the newest texts of parts."""
        self.lore.learn(list(parts.values()))
        return Newest(parts, self.lore)

    def look_at_stacks(self, stacks):
        """Look at the open calls of the runs in which something has changed."""
        changed = {run: list(stacks[run]) for run in stacks if self.stacks.get(run) != stacks[run]}
        self.lore.learn([text for stack in changed.values() for text, stand in stack])
        fresh = {run: self.lore.outlook(changed[run]) for run in changed}
        self.stacks = {run: changed[run] if run in changed else self.stacks[run] for run in stacks}
        self.outlooks = {run: fresh[run] if run in fresh else self.outlooks[run] for run in stacks}

    def preview_of(self, name, text):
        """What would be known of the newest texts if a part had the text."""
        if (name, text) not in self.previews:
            if len(self.previews) >= MOST_PREVIEWS:
                self.previews = {}
            self.previews[(name, text)] = self.newest_of({**self.newest.parts, name: text})
        return self.previews[(name, text)]

    def found_places(self):
        """The places of the open calls, by runs."""
        if self.places is None:
            self.numbering = Numbering(self.newest)
            self.places = {run: self.numbering.places_of(self.outlooks[run]) for run in self.outlooks}
        return self.places

    def found_entries(self):
        """The kept classes."""
        if self.entries is None:
            self.found_places()
            self.entries = self.numbering.kept_entries()
        return self.entries
