"""Classes of alike stands: those that no path tells apart."""


def sources_of(targets):
    """For each state the states with a branch to it."""
    sources = [[] for state in targets]
    for state, reached in enumerate(targets):
        for target in reached:
            sources[target].append(state)
    return sources


class Splitting:
    """States, numbered from 0, in classes that are split until only alike states share one."""

    def __init__(self, deeds, targets):
        self.targets = targets
        self.sources = sources_of(targets)
        self.classes = []
        self.members = []
        # For each class, where the branches of its members led when they were last looked at.
        self.marks = []
        numbers = {}
        for state, deed in enumerate(deeds):
            if deed not in numbers:
                numbers[deed] = self.new_class(None)
            self.classes.append(numbers[deed])
            self.members[numbers[deed]][state] = True

    def new_class(self, mark):
        """The number of a new class, as yet without members."""
        self.members.append({})
        self.marks.append(mark)
        return len(self.members) - 1

    def divide(self, moved):
        """Split the classes with branches to the states that moved; returns the states that move now."""
        touched = {source: True for state in moved for source in self.sources[state]}
        groups = {}
        for state in touched:
            mark = tuple([self.classes[target] for target in self.targets[state]])
            groups.setdefault(self.classes[state], {}).setdefault(mark, []).append(state)
        moving = []
        for number in groups:
            moving.extend(self.part(number, groups[number]))
        return moving

    def part(self, number, groups):
        """Give all but the largest group of a class new classes; returns the states that move.

        The groups are those of the touched states, by their marks. The others still have the old mark.
        """
        sizes = {mark: len(groups[mark]) for mark in groups}
        old = self.marks[number]
        untouched = len(self.members[number]) - sum(list(sizes.values()))
        if untouched > 0:
            sizes[old] = sizes.get(old, 0) + untouched
        # The largest stays: so a state moves only into a class of at most half the size, which is not often.
        staying = max(list(sizes), key=lambda group: sizes[group])
        self.marks[number] = staying
        moving = []
        for mark in sizes:
            if mark != staying:
                states = groups.get(mark, [])
                if mark == old and untouched > 0:
                    states = states + self.others(number, groups)
                moving.extend(self.move(number, mark, states))
        return moving

    def others(self, number, groups):
        """The members of a class that are in none of the groups."""
        grouped = {state: True for states in groups.values() for state in states}
        return [state for state in self.members[number] if state not in grouped]

    def move(self, number, mark, states):
        """Move states of a class to a new class; returns them."""
        fresh = self.new_class(mark)
        for state in states:
            del self.members[number][state]
            self.members[fresh][state] = True
            self.classes[state] = fresh
        return states


def split_classes(deeds, targets):
    """For each state the number of its class: states are alike by their deeds and where their branches lead."""
    splitting = Splitting(deeds, targets)
    moved = list(range(len(deeds)))
    while moved:
        moved = splitting.divide(moved)
    return splitting.classes


def classes_of(table):
    """Number the classes of alike stands of a table: equal numbers for alike stands."""
    numbers = {stand: number for number, stand in enumerate(table)}
    deeds = [deed for deed, targets in table.values()]
    reached = [tuple([numbers[target] for target in targets]) for deed, targets in table.values()]
    classes = split_classes(deeds, reached)
    return {stand: classes[number] for stand, number in numbers.items()}
