"""A second, slow house: every answer is computed anew from the words of the document.

A call is kept as (text, argument, path): where it stands is found by walking the text from its beginning.
"""

from tests.helpers import slow_classes, slow_deed, slow_reach, slow_settle, slow_stands, slow_targets, slow_walk

MUTE = (-1, 0, 0)


class SlowRun:
    def __init__(self, stack):
        self.stack = stack
        self.tape = []
        self.over = None


class SlowHouse:
    def __init__(self, base):
        self.base = base
        self.parts = {}
        self.memory = [0, 0]
        self.began = []

    def do(self, deed):
        """Do a deed of a history that can be done; what the method of the house would return."""
        return getattr(self, "do_" + deed[0])(*deed[1:])

    def do_tell(self, name, text):
        self.parts[name] = text

    def do_drop(self, name):
        del self.parts[name]

    def do_begin(self, name, argument):
        self.began.append(SlowRun([(self.parts[name], argument, ())]))
        return len(self.began) - 1

    def do_stop(self, run):
        self.began[run].stack = []
        self.began[run].over = ("stopped",)

    def do_put(self, cell, value):
        self.memory[cell] = value

    def do_step(self, run, answer):
        line = self.began[run]
        deed = self.deed(run)
        depth = len(line.stack)
        event = deed
        if deed[0] == "ask":
            event = ("ask", answer)
            self.receive(line, answer)
        elif deed[0] == "read":
            event = ("read", deed[1], self.memory[deed[1]])
            self.receive(line, event[2])
        elif deed[0] == "write":
            self.memory[deed[1]] = deed[2]
            self.receive(line, 0)
        elif deed[0] == "say":
            self.receive(line, 0)
        elif deed[0] == "call":
            line.stack.append((self.parts[deed[1]] if deed[1] in self.parts else (), deed[2], ()))
        elif deed[0] == "end":
            line.stack.pop()
            if line.stack:
                self.receive(line, deed[1])
            else:
                line.over = ("over", deed[1])
        line.tape.append((depth, event))
        return event

    def receive(self, line, branch):
        text, argument, path = line.stack[-1]
        line.stack[-1] = (text, argument, path + (branch,))

    def stand(self, call, *more):
        text, argument, path = call
        return slow_walk(text, slow_settle(text, 0, argument, 0, self.base), path + more, self.base)

    def deed(self, run):
        call = self.began[run].stack[-1]
        return slow_deed(call[0], self.stand(call), self.base)

    def runs(self):
        return [run for run, line in enumerate(self.began) if line.over is None]

    def view(self):
        entries = [line.over or (len(line.stack), self.deed(run)) for run, line in enumerate(self.began)]
        return (self.base, tuple(sorted(self.parts)), tuple(self.memory), tuple(entries))

    def goes_on(self, run, depth):
        """Where the call goes on: {None: stand} for the top call, else {result that can come: stand}."""
        stack = self.began[run].stack
        call = stack[depth - 1]
        if depth == len(stack):
            return {None: self.stand(call)}
        return {r: self.stand(call, r) for r in self.results(run, depth + 1)}

    def results(self, run, depth):
        text = self.began[run].stack[depth - 1][0]
        found = set()
        for stand in self.goes_on(run, depth).values():
            deeds = [slow_deed(text, reached, self.base) for reached in slow_reach(text, stand, self.base)]
            found |= {deed[1] for deed in deeds if deed[0] == "end"}
        return sorted(found)

    def look(self):
        return SlowLook(self)

    def is_like(self, other):
        """Point 24, word by word."""
        if self.view() != other.view():
            return False
        pairs = []
        for name in self.parts:
            for v in range(self.base):
                one, two = self.parts[name], other.parts[name]
                pairs.append(((one, slow_settle(one, 0, v, 0, self.base)), (two, slow_settle(two, 0, v, 0, self.base))))
        for run in self.runs():
            for depth in range(1, len(self.began[run].stack) + 1):
                one = self.began[run].stack[depth - 1][0]
                two = other.began[run].stack[depth - 1][0]
                there = other.goes_on(run, depth)
                for result, stand in self.goes_on(run, depth).items():
                    if result in there:
                        pairs.append(((one, stand), (two, there[result])))
        texts = list(dict.fromkeys(text for pair in pairs for text, _ in pair))
        classes = slow_classes(texts, self.base)
        return all(
            classes[texts.index(text), stand] == classes[texts.index(other_text), other_stand]
            for (text, stand), (other_text, other_stand) in pairs
        )


class SlowLook:
    """Places, kept classes and what lies ahead, at one moment of a slow house."""

    def __init__(self, house):
        self.house = house
        self.base = house.base
        stacks = [call[0] for line in house.began for call in line.stack]
        self.texts = list(dict.fromkeys(list(house.parts.values()) + stacks))
        self.classes = slow_classes(self.texts, self.base)
        self.numbers = {}
        self.order = []
        self.places = {run: self.places_of(run) for run in house.runs()}
        self.kept = []
        for text, stand in self.order:
            branches = tuple(self.place(text, t) for t in slow_targets(text, stand, self.base))
            self.kept.append((slow_deed(text, stand, self.base), branches))

    def group(self, text, stand):
        return self.classes[self.texts.index(text), stand]

    def newest(self, text, stand):
        """The least newest stand that is alike, None if there is none."""
        group = self.group(text, stand)
        found = [
            ("new", name, *other) for name, newest in self.house.parts.items()
            for other in slow_stands(newest, self.base) if self.group(newest, other) == group
        ]
        return min(found, default=None)

    def place(self, text, stand):
        if stand == MUTE:
            return ("mute",)
        new = self.newest(text, stand)
        if new is not None:
            return new
        group = self.group(text, stand)
        if group not in self.numbers:
            self.numbers[group] = len(self.order)
            self.order.append((text, stand))
        return ("kept", self.numbers[group])

    def places_of(self, run):
        stack = self.house.began[run].stack
        found = []
        for depth, (text, _, _) in enumerate(stack, start=1):
            there = self.house.goes_on(run, depth)
            if depth == len(stack):
                found.append(self.place(text, there[None]))
            else:
                entries = [self.place(text, there[r]) if r in there else None for r in range(self.base)]
                found.append(("waits", tuple(entries)))
        return found

    def is_kept(self, text, stand):
        return stand != MUTE and self.newest(text, stand) is None

    def latest(self, run, depth):
        """The longest path through kept stands, by all paths at once; None if it outgrows the text."""
        text = self.house.began[run].stack[depth - 1][0]
        here = {s for s in self.house.goes_on(run, depth).values() if self.is_kept(text, s)}
        length = 0
        while here:
            length += 1
            if length > (len(text) + 1) * self.base ** 2:
                return None
            reached = {t for s in here for t in slow_targets(text, s, self.base)}
            here = {t for t in reached if self.is_kept(text, t)}
        return length
