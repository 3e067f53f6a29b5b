"""Alike houses: what can be seen of a house, and what tells two houses apart."""

from callsover.rests import meet_pairs, path_to


def view_of_run(track, base):
    """The entry of a run in the view."""
    if track.outcome is not None:
        return track.outcome
    return (len(track.calls), track.top_deed(base))


def view(house):
    """The view of a house."""
    entries = [view_of_run(track, house.base) for track in house.tracks]
    return (house.base, tuple(house.names()), house.cells(), tuple(entries))


def changed_parts(one, other):
    """The names of the parts that have different texts in two houses with equal views."""
    return [name for name in one.names() if one.text(name) != other.text(name)]


def changed_runs(one, other):
    """The open runs with different calls in two houses with equal views."""
    return [run for run in one.runs() if one.tracks[run].calls != other.tracks[run].calls]


def common_lore(one, other):
    """A lore that knows all texts in which two houses with equal views differ."""
    texts = []
    for house in (one, other):
        texts.extend([house.text(name) for name in changed_parts(one, other)])
        for run in changed_runs(one, other):
            texts.extend([text for text, stand in house.tracks[run].calls])
    return one.learned(texts)


def part_pairs(one, other, lore):
    """Where calls of changed parts begin, as (deed that begins one, class, other class)."""
    found = []
    for name in changed_parts(one, other):
        for argument in range(one.base):
            number = lore.first_class_of(one.text(name), argument)
            other_number = lore.first_class_of(other.text(name), argument)
            found.append((("begin", name, argument), number, other_number))
    return found


def run_pairs(run, one, other, lore):
    """Where the open calls of a run go on, as (("run", run, depth, result), class, other class).

    The higher calls come first: what can come of them is the same for both houses only if they are alike.
    """
    outlook = lore.outlook(one.tracks[run].calls)
    other_outlook = lore.outlook(other.tracks[run].calls)
    found = []
    for at in range(len(outlook) - 1, -1, -1):
        for result, (number, other_number) in enumerate(zip(outlook[at][0], other_outlook[at][0])):
            if number is not None and other_number is not None:
                found.append((("run", run, at + 1, result), number, other_number))
    return found


def parted_pair(one, other, lore):
    """The first pair that is not alike, of two houses with equal views; None if they are alike."""
    pairs = part_pairs(one, other, lore)
    for run in changed_runs(one, other):
        pairs.extend(run_pairs(run, one, other, lore))
    for pair in pairs:
        if pair[1] != pair[2]:
            return pair
    return None


def are_alike(one, other):
    """Tell whether two houses are alike."""
    if view(one) != view(other):
        return False
    return parted_pair(one, other, common_lore(one, other)) is None


def deeds_for(deed, branch, run):
    """Deeds of a history by which the top call of a run does the deed and goes along the branch."""
    step = ("step", run, None)
    if deed[0] == "ask":
        return [("step", run, branch)]
    if deed[0] == "read":
        return [("put", deed[1], branch), step]
    if deed[0] == "call":
        return [("tell", deed[1], (("end", branch),)), step, step]
    return [step]


def deeds_along(table, spot, path, run):
    """Deeds of a history by which the top call of a run goes along a path from a spot."""
    found = []
    here = spot
    for branch in path:
        deed, targets = table[here]
        found.extend(deeds_for(deed, branch, run))
        here = targets[branch]
    return found


def path_to_end(table, spot, result):
    """A shortest path from a spot to the end of the call with the result; None if there is none."""
    ahead = {spot: None}
    queue = [spot]
    at = 0
    while at < len(queue):
        here = queue[at]
        deed, targets = table[here]
        if deed == ("end", result):
            return path_to(ahead, here)
        for branch, target in enumerate(targets):
            if target not in ahead:
                ahead[target] = (here, branch)
                queue.append(target)
        at += 1
    return None


def way_to_end(table, entries, result):
    """The first entry from which a call can come to its end with the result.

    Returns its number and the path to the end from there; one of the entries is known to lead there.
    """
    for number, spot in enumerate(entries):
        path = None if spot is None else path_to_end(table, spot, result)
        if path is not None:
            return (number, path)
    return None


def deeds_down(lore, stack, run, depth, result):
    """Deeds of a history after which the call at the depth goes on with the result."""
    found = []
    for entries, results in lore.outlook(stack)[depth:]:
        number, path = way_to_end(lore.table, entries, result)
        # A call ends before the one below it goes on, so what is found for it comes ahead.
        found = deeds_along(lore.table, entries[number], path, run) + [("step", run, None)] + found
        result = number
    return found


def apart(one, other):
    """A history that tells two houses apart, or None if they are alike."""
    if view(one) != view(other):
        return []
    lore = common_lore(one, other)
    pair = parted_pair(one, other, lore)
    if pair is None:
        return None
    way, number, other_number = pair
    ahead, last = meet_pairs(lore.table, number, lore.table, other_number)
    path = path_to(ahead, last)
    if way[0] == "begin":
        return [way] + deeds_along(lore.table, number, path, len(one.tracks))
    word, run, depth, result = way
    lead = deeds_down(lore, one.tracks[run].calls, run, depth, result)
    return lead + deeds_along(lore.table, number, path, run)
