"""Runs: stacks of open calls."""

from callsover.stands import deed_at, first_stand, go_on


class Run:
    """A run of a house. A call is a tuple (text, stand); the text is the one with which it began."""

    def __init__(self):
        # From the lowest call to the top; none if the run is over.
        self.calls = []
        self.events = []
        # ("over", result) or ("stopped",), None as long as the run is open.
        self.outcome = None

    def twin_run(self):
        """A run in the same state, independent of this one."""
        other = Run()
        other.calls = list(self.calls)
        other.events = list(self.events)
        other.outcome = self.outcome
        return other

    def top_deed(self, base):
        """The deed of the top call."""
        text, stand = self.calls[-1]
        return deed_at(text, stand, base)

    def push(self, text, argument, base):
        """Put a call on top."""
        self.calls.append((text, first_stand(text, argument, base=base)))

    def receive(self, branch, base):
        """Let the top call continue along a branch."""
        text, stand = self.calls[-1]
        self.calls[-1] = (text, go_on(text, stand, branch, base, {}))

    def end_top(self, result, base):
        """Remove the top call and hand its result down."""
        del self.calls[-1]
        if self.calls:
            self.receive(result, base)
        else:
            self.outcome = ("over", result)

    def cut(self):
        """Stop the run."""
        self.calls = []
        self.outcome = ("stopped",)
