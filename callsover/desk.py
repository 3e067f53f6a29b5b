"""The desk: a house that answers commands."""

from callsover.errors import NoCommand, NoText
from callsover.house import House
from callsover.kinds import is_name
from callsover.shown import show_class, show_deed, show_place, show_words
from callsover.texts import read_integer, read_text, show_text

MOST_DIGITS = 3
BETWEEN_ROWS = " / "
NO_ROWS = "-"
# What follows the first word of each command.
FORMS = {
    "tell": ("name", "rows"),
    "drop": ("name",),
    "stop": ("number",),
    "put": ("number", "number"),
    "begin": ("name", "number"),
    "step": ("number",),
    "answer": ("number", "number"),
    "deed": ("number",),
    "text": ("name",),
    "tape": ("number",),
    "cells": (),
    "names": (),
    "runs": (),
    "standing": ("number",),
    "kept": (),
    "latest": ("number", "number"),
}


def read_number(word):
    """Read a number of at most three digits."""
    number = read_integer(word) if len(word) <= MOST_DIGITS else None
    if number is None:
        raise NoCommand()
    return number


def read_rows(written, base):
    """Read a text as a command writes it."""
    if written == NO_ROWS:
        return ()
    try:
        return read_text(written.replace(BETWEEN_ROWS, "\n"), base=base)
    except NoText:
        raise NoCommand() from None


def read_item(word, kind, base):
    """Read what follows the first word of a command."""
    if kind == "number":
        return read_number(word)
    if kind == "rows":
        return read_rows(word, base)
    if not is_name(word):
        raise NoCommand()
    return word


def read_command(command, base):
    """Read any value as a command: its first word, and the list of what follows."""
    # A line feed stands between rows for read_text, but never in a command.
    if not isinstance(command, str) or "\n" in command:
        raise NoCommand()
    words = command.split(" ")
    if "" in words:
        raise NoCommand()
    # The rows of a text are all that follows its name.
    if words[0] == "tell":
        words = command.split(" ", 2)
    form = FORMS.get(words[0])
    if form is None or len(words) != len(form) + 1:
        raise NoCommand()
    return words[0], [read_item(word, kind, base) for word, kind in zip(words[1:], form)]


def show_list(written, between):
    """Join what is written; none if there is nothing."""
    return between.join(written) if written else "none"


def do_tell(house, name, text):
    """Answer `tell NAME ROWS`."""
    house.tell(name, text)
    return "ok"


def do_drop(house, name):
    """Answer `drop NAME`."""
    house.drop(name)
    return "ok"


def do_stop(house, run):
    """Answer `stop RUN`."""
    house.stop(run)
    return "ok"


def do_put(house, cell, value):
    """Answer `put CELL NUMBER`."""
    house.put(cell, value)
    return "ok"


def do_begin(house, name, argument):
    """Answer `begin NAME NUMBER`."""
    return str(house.begin(name, argument))


def do_step(house, run):
    """Answer `step RUN`."""
    return show_deed(house.step(run))


def do_answer(house, run, number):
    """Answer `answer RUN NUMBER`."""
    return show_deed(house.step(run, answer=number))


def tell_deed(house, run):
    """Answer `deed RUN`."""
    return show_deed(house.deed(run))


def tell_text(house, name):
    """Answer `text NAME`."""
    text = house.text(name)
    return show_text(text).replace("\n", BETWEEN_ROWS) if text else NO_ROWS


def tell_tape(house, run):
    """Answer `tape RUN`."""
    return show_list([f"{depth} {show_deed(event)}" for depth, event in house.tape(run)], "; ")


def tell_cells(house):
    """Answer `cells`."""
    return show_words(house.cells())


def tell_names(house):
    """Answer `names`."""
    return show_list(house.names(), " ")


def tell_runs(house):
    """Answer `runs`."""
    return show_list([str(run) for run in house.runs()], " ")


def tell_standing(house, run):
    """Answer `standing RUN`."""
    return show_list([show_place(place) for place in house.standing(run)], "; ")


def tell_kept(house):
    """Answer `kept`."""
    return show_list([show_class(entry) for entry in house.kept()], "; ")


def tell_latest(house, run, depth):
    """Answer `latest RUN DEPTH`."""
    latest = house.latest(run, depth)
    return "never" if latest is None else str(latest)


ACTIONS = {
    "tell": do_tell,
    "drop": do_drop,
    "stop": do_stop,
    "put": do_put,
    "begin": do_begin,
    "step": do_step,
    "answer": do_answer,
    "deed": tell_deed,
    "text": tell_text,
    "tape": tell_tape,
    "cells": tell_cells,
    "names": tell_names,
    "runs": tell_runs,
    "standing": tell_standing,
    "kept": tell_kept,
    "latest": tell_latest,
}


class Desk:
    """A desk with a house of its own."""

    def __init__(self, *, base=3):
        self.held = House(base=base)

    def say(self, command):
        """Answer a command."""
        word, values = read_command(command, self.held.base)
        action = ACTIONS[word]
        return action(self.held, *values)

    def house(self):
        """A twin of the house."""
        return self.held.twin()
