"""Histories by chance, and texts that differ a little or not at all."""

import random

from tests.helpers import FORMS, good_items, with_idle_rows
from tests.slow_house import SlowHouse

NAMES = ("f", "g", "h")
# What a call does comes more often than silent rows.
WORDS = ("set", "if", "go", "say", "say", "ask", "ask", "read", "write", "call", "call", "call", "end", "end")
ITEMS = {form[0]: form[1:] for form in FORMS}


def some_row(source, base, rows):
    word = source.choice(WORDS)
    items = [source.choice(NAMES + ("none",)) if kind == "N" else source.choice(good_items(kind, base, rows))
             for kind in ITEMS[word]]
    return (word, *items)


def some_text(source, base, most=5):
    rows = source.randint(0, most)
    return tuple(some_row(source, base, rows) for _ in range(rows))


def changed_text(source, text, base):
    """A text with another row, with idle rows, or quite another one."""
    way = source.randrange(5)
    if way == 0 or not text:
        return some_text(source, base)
    if way == 1 and len(text) <= 7:
        return with_idle_rows(text)
    at = source.randrange(len(text))
    return text[:at] + (some_row(source, base, len(text)),) + text[at + 1:]


def next_deed(source, slow, told):
    """A deed that can be done."""
    base, runs, names = slow.base, slow.runs(), sorted(slow.parts)
    ways = ["step"] * 8 * bool(runs) + ["begin"] * bool(names) * (len(runs) < 6) * (1 if len(runs) > 1 else 4)
    way = source.choice(ways + ["tell", "tell", "put"] + ["drop"] * bool(names) + ["stop"] * (len(runs) > 3))
    if way == "tell":
        text = changed_text(source, source.choice(told), base) if told else some_text(source, base)
        return ("tell", source.choice(NAMES), text)
    if way == "drop":
        return ("drop", source.choice(names))
    if way == "begin":
        return ("begin", source.choice(names), source.randrange(base))
    if way == "put":
        return ("put", source.randrange(2), source.randrange(base))
    run = source.choice(runs)
    if way == "stop":
        return ("stop", run)
    deep = len(slow.began[run].stack) >= 20 and slow.deed(run)[0] == "call"
    if deep:
        return ("stop", run)
    return ("step", run, source.randrange(base) if slow.deed(run) == ("ask",) else None)


def some_history(seed, base, length):
    """A history by chance."""
    source = random.Random(f"{seed} {base} {length}")
    slow = SlowHouse(base)
    history, told = [], []
    while len(history) < length:
        deed = next_deed(source, slow, told)
        if deed[0] == "tell":
            told.append(deed[2])
        slow.do(deed)
        history.append(deed)
    return history


def slow_house_of(history, base):
    slow = SlowHouse(base)
    for deed in history:
        slow.do(deed)
    return slow
