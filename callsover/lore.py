"""Lore: what is known of texts, whatever a house does with them.

Each class of alike stands has a number. Stands of all texts of a lore are alike exactly if their numbers are equal,
so no text has to be looked at again when others are replaced.
"""

from callsover.knots import components, inner_targets, merge, ordered, shape_of
from callsover.sheets import landings, point_number, row_entries
from callsover.stands import SILENT


class Lore:
    """The classes of alike stands of all texts that were learned so far."""

    def __init__(self, base):
        self.base = base
        # By classes: the deed with the classes of its branches, and the results that can come, a bit for each.
        self.table = []
        self.endings = []
        # The class with a deed and branches to certain classes, and the first class of a knot of a certain shape.
        self.forms = {}
        self.shapes = {}
        # By texts: the class of each point, and the point of the least stand of each class.
        self.sheets = {}
        self.leasts = {}
        self.grids = {}
        # Whether another lore has the very same tables; they are copied before something is added to them.
        self.lent = False

    def twin_lore(self):
        """A lore that knows the same, independent of this one."""
        other = Lore(self.base)
        other.take_tables(self)
        self.lent = True
        other.lent = True
        return other

    def take_tables(self, other):
        """Have the same tables as another lore."""
        self.table = other.table
        self.endings = other.endings
        self.forms = other.forms
        self.shapes = other.shapes
        self.sheets = other.sheets
        self.leasts = other.leasts

    def copy_tables(self):
        """Have tables that no other lore has."""
        self.table = list(self.table)
        self.endings = list(self.endings)
        self.forms = {form: number for form, number in self.forms.items()}
        self.shapes = {shape: number for shape, number in self.shapes.items()}
        self.sheets = {text: numbers for text, numbers in self.sheets.items()}
        self.leasts = {text: stands for text, stands in self.leasts.items()}
        self.lent = False

    def learn(self, texts):
        """Number the classes of the stands of texts."""
        for text in texts:
            if text not in self.sheets:
                if self.lent:
                    self.copy_tables()
                self.learn_text(text)

    def learn_text(self, text):
        """Number the classes of the stands of a text."""
        size = self.base * self.base
        mute = (len(text) + 1) * size
        landed = landings(text, self.base, self.grids)
        numbers = [None for point in landed]
        numbers[mute:] = [self.class_of(("mute",), ())] * size
        numbers[mute - size:mute] = [self.class_of(("end", 0), ())] * size
        waiting = []
        # Calls mostly go down a text, so most classes can be numbered from its end upwards.
        for row in range(len(text) - 1, -1, -1):
            if text[row][0] not in SILENT:
                entries = row_entries(text[row], row, landed, self.base, self.grids)
                waiting.extend([(row * size + at, deed, targets) for at, (deed, targets) in enumerate(entries)])
        self.tell_classes(waiting, numbers)
        self.sheets[text] = tuple([numbers[point] for point in landed])
        # From the greatest stand to the least, so that the least one stays.
        stands = [point for point in range(mute - 1, -1, -1) if numbers[point] is not None]
        self.leasts[text] = {numbers[point]: point for point in stands}

    def tell_classes(self, waiting, numbers):
        """Number the classes of points that are given as (point, deed, targets)."""
        left = self.tell_straight(waiting, numbers)
        if left:
            self.tell_knots(left, numbers)

    def tell_straight(self, waiting, numbers):
        """Number the classes of points from which no ring can be reached; returns the other points."""
        # By points that are not numbered yet: what waits for them, each for one of its targets at a time.
        blocked = {}
        ready = waiting[::-1]
        while ready:
            entry = ready.pop()
            point, deed, targets = entry
            reached = tuple([numbers[target] for target in targets])
            if None in reached:
                blocked.setdefault(targets[reached.index(None)], []).append(entry)
            else:
                numbers[point] = self.class_of(deed, reached)
                if point in blocked:
                    ready.extend(blocked.pop(point))
        return [entry for entries in blocked.values() for entry in entries]

    def class_of(self, deed, reached):
        """The class with the deed and branches to the classes."""
        form = (deed, reached)
        if form not in self.forms:
            self.forms[form] = len(self.table)
            self.table.append(form)
            self.endings.append(1 << deed[1] if deed[0] == "end" else self.endings_of(reached))
        return self.forms[form]

    def endings_of(self, reached):
        """The results that can come of any of the classes."""
        endings = 0
        for number in reached:
            endings = endings | self.endings[number]
        return endings

    def tell_knots(self, waiting, numbers):
        """Number the classes of points from which calls can go on in rings."""
        points = {}
        for point, deed, targets in waiting:
            points.setdefault((deed, targets), []).append(point)
        states = {point: state for state, same in enumerate(points.values()) for point in same}
        entries = []
        for deed, targets in points:
            ways = [-1 - states[target] if target in states else numbers[target] for target in targets]
            entries.append((deed, tuple(ways)))
        classes, merged = merge(entries)
        found = self.tell_groups(merged)
        for same, number in zip(points.values(), classes):
            for point in same:
                numbers[point] = found[number]

    def tell_groups(self, entries):
        """The numbers of classes that are given as in knots; no two of them are alike."""
        found = {}
        for group in components([inner_targets(ways) for deed, ways in entries]):
            knot = {}
            for state in group:
                deed, ways = entries[state]
                knot[state] = (deed, tuple([found.get(-1 - way, way) for way in ways]))
            deed, ways = knot[group[0]]
            if len(group) == 1 and inner_targets(ways) == []:
                found[group[0]] = self.class_of(deed, ways)
            else:
                self.tell_knot(knot, found)
        return found

    def tell_knot(self, knot, found):
        """Note the numbers of the classes of a knot."""
        order = ordered(knot)
        first = self.first_class(shape_of(knot, order))
        for at, state in enumerate(order):
            found[state] = first + at

    def first_class(self, shape):
        """The first class of a knot of the shape; the others follow it."""
        if shape not in self.shapes:
            first = len(self.table)
            self.shapes[shape] = first
            # Each class of a knot leads to all others, so the same results can come of all of them.
            endings = self.endings_of([way for deed, ways in shape for way in ways if way >= 0])
            for deed, ways in shape:
                self.table.append((deed, tuple([way if way >= 0 else first - 1 - way for way in ways])))
                self.endings.append(endings)
        return self.shapes[shape]

    def first_class_of(self, text, argument):
        """The class of the stand at which a call with the argument begins."""
        return self.sheets[text][point_number((0, argument, 0), self.base)]

    def class_at(self, call):
        """The class of the stand of a call."""
        text, stand = call
        return self.sheets[text][point_number(stand, self.base)]

    def outlook(self, stack):
        """For each call of a stack, from the lowest on, (entries, results).

        The results are those that can come of the call. The entries are the class of the top call alone;
        of a waiting call, for each result of the call above, where it continues, None if that cannot come.
        """
        entries = (self.class_at(stack[-1]),)
        endings = self.endings[entries[0]]
        found = [(entries, self.results_in(endings))]
        for call in stack[-2::-1]:
            targets = self.table[self.class_at(call)][1]
            entries = tuple([target if (endings >> at) & 1 else None for at, target in enumerate(targets)])
            endings = self.endings_of([entry for entry in entries if entry is not None])
            found.append((entries, self.results_in(endings)))
        return found[::-1]

    def results_in(self, endings):
        """The results that can come, ascending."""
        return [result for result in range(self.base) if (endings >> result) & 1]
