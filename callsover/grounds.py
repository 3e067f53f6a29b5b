"""Grounds: the stands of several texts side by side, where open calls can come to."""

from callsover.classes import classes_of
from callsover.rests import table_from


class Ground:
    """The stands that can be walked to from given stands of several texts.

    A call is a tuple (text, stand). Here it is given by its spot, (number of the text, stand).
    """

    def __init__(self, calls, base):
        stands = {}
        for text, stand in calls:
            stands.setdefault(text, []).append(stand)
        self.numbers = {text: number for number, text in enumerate(stands)}
        self.table = {}
        for text in stands:
            self.lay(self.numbers[text], table_from(text, stands[text], base))
        self.classes = classes_of(self.table)

    def lay(self, number, reached):
        """Add the stands of a text, each with its deed and its targets."""
        for stand in reached:
            deed, targets = reached[stand]
            self.table[(number, stand)] = (deed, tuple([(number, target) for target in targets]))

    def spot(self, call):
        """The spot of a call."""
        text, stand = call
        return (self.numbers[text], stand)

    def ends(self, spots):
        """The results, ascending, with which a call can end that comes to one of the spots."""
        met = {}
        waiting = list(spots)
        results = {}
        while waiting:
            here = waiting.pop()
            if here not in met:
                met[here] = True
                deed, targets = self.table[here]
                waiting.extend(targets)
                if deed[0] == "end":
                    results[deed[1]] = True
        return sorted(results)

    def outlook(self, stack):
        """For each call of a stack, from the lowest on, (entries, results).

        The results are those that can come of the call. The entries are the spot of the top call alone;
        of a waiting call, for each result of the call above, where it continues, None if that cannot come.
        """
        entries = (self.spot(stack[-1]),)
        results = self.ends(entries)
        found = [(entries, results)]
        for call in stack[-2::-1]:
            targets = self.table[self.spot(call)][1]
            entries = tuple([target if number in results else None for number, target in enumerate(targets)])
            results = self.ends([entry for entry in entries if entry is not None])
            found.append((entries, results))
        return found[::-1]
