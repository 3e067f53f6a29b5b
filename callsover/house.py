"""Houses: parts with texts, cells, and runs of calls."""

from callsover.ahead import entries_latest, ring_of
from callsover.alike import are_alike
from callsover.errors import (
    NoAnswer, NoBase, NoCell, NoDepth, NoHistory, NoName, NoNumber, NoPart, NoRows, NoRun, NotAsked, Over,
)
from callsover.kinds import is_base, is_below, is_cell, is_name
from callsover.places import Survey
from callsover.runs import Run
from callsover.shown import show_deed
from callsover.texts import is_text

# The number of items of each deed of a history.
LENGTHS = {"tell": 3, "drop": 2, "begin": 3, "step": 3, "stop": 2, "put": 3}


class House:
    """A house: a base, two cells, parts and runs."""

    def __init__(self, *, base=3):
        if not is_base(base):
            raise NoBase(base)
        self.base = base
        # The newest text of each part.
        self.parts = {}
        self.memory = [0, 0]
        # All runs that ever began, by their numbers.
        self.tracks = []
        self.deeds = []
        # What was found out about places, None if nothing was.
        self.survey = None

    def tell(self, name, text):
        """Give a part a text, or replace its text."""
        self.check_telling(name, text)
        self.parts[name] = text
        self.note(("tell", name, text))

    def drop(self, name):
        """Remove a part."""
        self.check_part(name)
        del self.parts[name]
        self.note(("drop", name))

    def begin(self, name, argument=0):
        """Begin a run with a call of a part; returns the number of the run."""
        self.check_part(name)
        self.check_number(argument)
        track = Run()
        track.push(self.parts[name], argument, self.base)
        self.tracks.append(track)
        self.note(("begin", name, argument))
        return len(self.tracks) - 1

    def step(self, run, *, answer=None):
        """Do the deed of the top call of a run; returns the event."""
        deed = self.deed(run)
        if deed == ("ask",):
            if answer is None:
                raise NoAnswer(run)
            self.check_number(answer)
        elif answer is not None:
            raise NotAsked(run)
        track = self.tracks[run]
        depth = len(track.calls)
        event = self.do_deed(track, deed, answer)
        track.events.append((depth, event))
        self.note(("step", run, answer))
        return event

    def stop(self, run):
        """Stop a run."""
        self.check_open(run)
        self.tracks[run].cut()
        self.note(("stop", run))

    def put(self, cell, value):
        """Put a value into a cell."""
        if not is_cell(cell):
            raise NoCell(cell)
        self.check_number(value)
        self.memory[cell] = value
        self.note(("put", cell, value))

    def deed(self, run):
        """The deed of the top call of a run."""
        self.check_open(run)
        return self.tracks[run].top_deed(self.base)

    def height(self, run):
        """The number of open calls of a run."""
        self.check_open(run)
        return len(self.tracks[run].calls)

    def result(self, run):
        """The result of a run, None if it is not over or was stopped."""
        self.check_run(run)
        outcome = self.tracks[run].outcome
        if outcome is None or outcome[0] != "over":
            return None
        return outcome[1]

    def tape(self, run):
        """The events of a run so far, each with the depth of the call that did it."""
        self.check_run(run)
        return list(self.tracks[run].events)

    def names(self):
        """The names of the parts, ascending."""
        return sorted(self.parts)

    def runs(self):
        """The numbers of the open runs, ascending."""
        return [run for run, track in enumerate(self.tracks) if track.outcome is None]

    def cells(self):
        """The values of the two cells."""
        return tuple(self.memory)

    def text(self, name):
        """The newest text of a part."""
        self.check_part(name)
        return self.parts[name]

    def history(self):
        """The deeds that were done since the house was made."""
        return list(self.deeds)

    def standing(self, run):
        """The places of the open calls of a run, from the lowest to the top."""
        self.check_open(run)
        return list(self.surveyed().found_places()[run])

    def kept(self):
        """The kept classes."""
        return list(self.surveyed().found_entries())

    def results(self, run, depth):
        """The results that can come of an open call, ascending."""
        self.check_depth(run, depth)
        entries, results = self.surveyed().outlooks[run][depth - 1]
        return list(results)

    def latest(self, run, depth):
        """The latest of the place of an open call, None if it can take any length."""
        self.check_depth(run, depth)
        survey = self.surveyed()
        entries, results = survey.outlooks[run][depth - 1]
        return entries_latest(entries, survey.newest)

    def ring(self, run, depth):
        """What shows that the latest of an open call is None; None if it is an integer."""
        self.check_depth(run, depth)
        survey = self.surveyed()
        entries, results = survey.outlooks[run][depth - 1]
        return ring_of(entries, depth == self.height(run), survey.newest)

    def preview(self, name, text):
        """The latest of each open call, as it would be if the part were given the text."""
        self.check_telling(name, text)
        survey = self.surveyed()
        newest = survey.preview_of(name, text)
        found = []
        for run in survey.outlooks:
            for at, (entries, results) in enumerate(survey.outlooks[run]):
                found.append((run, at + 1, entries_latest(entries, newest)))
        return found

    def play(self, history):
        """Do the deeds of a history; returns what the methods return."""
        if not isinstance(history, list):
            raise NoHistory(0)
        # What fails half-way must leave no trace, so it is tried on another house.
        trial = House(base=self.base)
        trial.become(self)
        returned = []
        for at, entry in enumerate(history):
            if not is_entry(entry):
                raise NoHistory(at)
            try:
                returned.append(do_entry(trial, entry))
            except (NoName, NoRows, NoPart, NoNumber, NoRun, Over, NoAnswer, NotAsked, NoCell):
                raise NoHistory(at) from None
        self.take_over(trial)
        return returned

    def twin(self):
        """A house with the same state and history, independent of this one."""
        other = House(base=self.base)
        other.become(self)
        if self.survey is not None:
            other.survey = self.survey.twin_survey()
        return other

    def __eq__(self, other):
        return isinstance(other, House) and are_alike(self, other)

    def __len__(self):
        return len([call for track in self.tracks for call in track.calls])

    def __str__(self):
        if self.runs() == []:
            return "none"
        return "; ".join([f"{run}: {self.height(run)} {show_deed(self.deed(run))}" for run in self.runs()])

    def __repr__(self):
        return f"House(base={self.base}, {len(self.parts)} parts, {len(self.runs())} runs)"

    def check_part(self, name):
        """Refuse a value that is not the name of a part."""
        # A list cannot be looked up in a dict.
        if not isinstance(name, str) or name not in self.parts:
            raise NoPart(name)

    def check_telling(self, name, text):
        """Refuse what cannot be told."""
        if not is_name(name):
            raise NoName(name)
        if not is_text(text, base=self.base):
            raise NoRows()

    def check_number(self, number):
        """Refuse a value that is not a number of the base."""
        if not is_below(number, self.base):
            raise NoNumber(number)

    def check_run(self, run):
        """Refuse a value that is not the number of a run."""
        if not is_below(run, len(self.tracks)):
            raise NoRun(run)

    def check_open(self, run):
        """Refuse a value that is not the number of an open run."""
        self.check_run(run)
        if self.tracks[run].outcome is not None:
            raise Over(run)

    def check_depth(self, run, depth):
        """Refuse values that are not the number of an open run and the depth of one of its calls."""
        if not is_below(depth, self.height(run) + 1) or depth == 0:
            raise NoDepth(depth)

    def note(self, entry):
        """Add a deed that was done to the history."""
        self.deeds.append(entry)

    def do_deed(self, track, deed, answer):
        """Do the deed of the top call of a run; returns the event."""
        word = deed[0]
        if word == "ask":
            track.receive(answer, self.base)
            return ("ask", answer)
        if word == "read":
            value = self.memory[deed[1]]
            track.receive(value, self.base)
            return ("read", deed[1], value)
        if word == "call":
            # A name without a text is called with the text without rows.
            track.push(self.parts.get(deed[1], ()), deed[2], self.base)
        elif word == "end":
            track.end_top(deed[1], self.base)
        elif word != "mute":
            track.receive(0, self.base)
        if word == "write":
            self.memory[deed[1]] = deed[2]
        return deed

    def some_survey(self):
        """A survey of the house; it may have looked at it earlier, or not at all."""
        if self.survey is None or self.survey.is_full():
            self.survey = Survey(self.base)
        return self.survey

    def surveyed(self):
        """A survey that has looked at the house as it is now."""
        survey = self.some_survey()
        # Nothing changes without a deed, so the number of deeds shows whether something has changed.
        if survey.deeds_seen != len(self.deeds):
            survey.look(self.parts, {run: self.tracks[run].calls for run in self.runs()})
            survey.deeds_seen = len(self.deeds)
        return survey

    def learned(self, texts):
        """The classes of alike stands, those of the texts among them."""
        lore = self.some_survey().lore
        lore.learn(texts)
        return lore

    def become(self, other):
        """Have the state and the history of another house of the same base."""
        self.parts = dict(other.parts)
        self.memory = list(other.memory)
        self.tracks = [track.twin_run() for track in other.tracks]
        self.deeds = list(other.deeds)

    def take_over(self, other):
        """Have the state and the history of a house that nobody else has; it is not used again."""
        self.parts = other.parts
        self.memory = other.memory
        self.tracks = other.tracks
        self.deeds = other.deeds


def is_entry(thing):
    """Tell whether any value has the form of a deed of a history; its items may still be wrong."""
    if not isinstance(thing, tuple) or len(thing) == 0 or not isinstance(thing[0], str):
        return False
    return len(thing) == LENGTHS.get(thing[0], 0)


def do_entry(house, entry):
    """Do a deed of a history; returns what the method returns."""
    word = entry[0]
    if word == "tell":
        return house.tell(entry[1], entry[2])
    if word == "drop":
        return house.drop(entry[1])
    if word == "begin":
        return house.begin(entry[1], entry[2])
    if word == "step":
        return house.step(entry[1], answer=entry[2])
    if word == "stop":
        return house.stop(entry[1])
    return house.put(entry[1], entry[2])


def house_of(history, *, base=3):
    """A new house that has played the history."""
    house = House(base=base)
    house.play(history)
    return house
