"""Deeds, events, places and kept classes as strings."""


def show_words(items):
    """Write items with a blank between two."""
    return " ".join([str(item) for item in items])


def show_deed(deed):
    """Write a deed or an event."""
    return show_words(deed)


def show_place(place):
    """Write a place."""
    if place[0] == "waits":
        entries = ", ".join(["-" if entry is None else show_place(entry) for entry in place[1]])
        return f"waits [{entries}]"
    if place[0] == "new":
        return show_words(place[1:])
    return show_words(place)


def show_class(entry):
    """Write a kept class."""
    deed, places = entry
    if len(places) == 0:
        return show_deed(deed)
    reached = ", ".join([show_place(place) for place in places])
    return f"{show_deed(deed)} -> {reached}"
