"""Newest texts: where classes of stands are placed beside them, and how long calls keep out of them."""

from callsover.sheets import stand_at


class Newest:
    """The newest texts of parts, and what is known of classes beside them."""

    def __init__(self, parts, lore):
        self.parts = dict(parts)
        self.lore = lore
        self.spread = [(name, lore.leasts[parts[name]]) for name in sorted(parts)]
        # By classes, as far as they were asked for: the place, None if it is kept, and the latest.
        self.settled = {}
        self.latests = {}

    def twin_newest(self, lore):
        """The same beside a twin of the lore, independent of this one."""
        other = Newest({}, lore)
        other.parts = self.parts
        other.spread = self.spread
        other.settled = dict(self.settled)
        other.latests = dict(self.latests)
        return other

    def targets_of(self, number):
        """The classes to which the branches of a class lead."""
        return self.lore.table[number][1]

    def place_of(self, number):
        """The place of a class, None if it is kept."""
        if number not in self.settled:
            self.settled[number] = self.find_place(number)
        return self.settled[number]

    def find_place(self, number):
        """Look for the place of a class."""
        if self.lore.table[number][0] == ("mute",):
            return ("mute",)
        for name, leasts in self.spread:
            if number in leasts:
                return ("new", name, *stand_at(leasts[number], self.lore.base))
        return None

    def latest_of(self, number):
        """The latest of the place of a class."""
        if self.place_of(number) is not None:
            return 0
        if number not in self.latests:
            self.find_latests(number)
        return self.latests[number]

    def find_latests(self, start):
        """Find the latest of a kept class and of all that can be reached from it through kept classes."""
        ways = self.unknown_from(start)
        sources = {number: [] for number in ways}
        missing = {number: len(ways[number]) for number in ways}
        for number in ways:
            for target in ways[number]:
                if target in sources:
                    sources[target].append(number)
                elif self.latests[target] is not None:
                    missing[number] -= 1
        self.latests.update({number: None for number in ways})
        ready = [number for number in ways if missing[number] == 0]
        # A class from which a ring can be reached never becomes ready.
        while ready:
            number = ready.pop()
            self.latests[number] = 1 + max([self.latests[target] for target in ways[number]], default=0)
            for source in sources[number]:
                missing[source] -= 1
                if missing[source] == 0:
                    ready.append(source)

    def unknown_from(self, start):
        """The kept classes without a known latest that can be reached from one, each with its kept branches."""
        ways = {}
        waiting = [start]
        while waiting:
            number = waiting.pop()
            if number not in ways:
                ways[number] = [target for target in self.targets_of(number) if self.place_of(target) is None]
                waiting.extend([target for target in ways[number] if target not in self.latests])
        return ways
