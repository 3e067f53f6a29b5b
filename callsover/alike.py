"""Alike houses: what can be seen of a house, and what tells two houses apart."""

from callsover.grounds import Ground
from callsover.rests import meet_pairs, path_to
from callsover.stands import first_stand


def view_of_run(track, base):
    """The entry of a run in the view."""
    if track.outcome is not None:
        return track.outcome
    return (len(track.calls), track.top_deed(base))


def view(house):
    """The view of a house."""
    entries = [view_of_run(track, house.base) for track in house.tracks]
    return (house.base, tuple(house.names()), house.cells(), tuple(entries))


def first_calls(house):
    """The calls with which parts can begin, each as (deed that begins it, call)."""
    found = []
    for name in house.names():
        text = house.text(name)
        for argument in range(house.base):
            call = (text, first_stand(text, argument, base=house.base))
            found.append((("begin", name, argument), call))
    return found


def common_ground(one, other):
    """The ground of two houses of the same base."""
    calls = []
    for house in (one, other):
        calls.extend([call for deed, call in first_calls(house)])
        calls.extend([call for track in house.tracks for call in track.calls])
    return Ground(calls, one.base)


def part_pairs(one, other, ground):
    """Where calls of each part begin, as (deed that begins it, spot, other spot)."""
    found = []
    for (deed, call), (other_deed, other_call) in zip(first_calls(one), first_calls(other)):
        found.append((deed, ground.spot(call), ground.spot(other_call)))
    return found


def run_pairs(run, one, other, ground):
    """Where the open calls of a run go on, as (("run", run, depth, result), spot, other spot).

    The higher calls come first: what can come of them is the same for both houses only if they are alike.
    """
    outlook = ground.outlook(one.tracks[run].calls)
    other_outlook = ground.outlook(other.tracks[run].calls)
    found = []
    for at in range(len(outlook) - 1, -1, -1):
        for result, (spot, other_spot) in enumerate(zip(outlook[at][0], other_outlook[at][0])):
            if spot is not None and other_spot is not None:
                found.append((("run", run, at + 1, result), spot, other_spot))
    return found


def parted_pair(one, other, ground):
    """The first pair that is not alike, of two houses with equal views; None if they are alike."""
    pairs = part_pairs(one, other, ground)
    for run in one.runs():
        pairs.extend(run_pairs(run, one, other, ground))
    for pair in pairs:
        if ground.classes[pair[1]] != ground.classes[pair[2]]:
            return pair
    return None


def are_alike(one, other):
    """Tell whether two houses are alike."""
    if view(one) != view(other):
        return False
    return parted_pair(one, other, common_ground(one, other)) is None


def deeds_for(deed, branch, run):
    """Deeds of a history by which the top call of a run does the deed and goes along the branch."""
    step = ("step", run, None)
    if deed[0] == "ask":
        return [("step", run, branch)]
    if deed[0] == "read":
        return [("put", deed[1], branch), step]
    if deed[0] == "call":
        return [("tell", deed[1], (("end", branch),)), step, step]
    return [step]


def deeds_along(table, spot, path, run):
    """Deeds of a history by which the top call of a run goes along a path from a spot."""
    found = []
    here = spot
    for branch in path:
        deed, targets = table[here]
        found.extend(deeds_for(deed, branch, run))
        here = targets[branch]
    return found


def path_to_end(table, spot, result):
    """A shortest path from a spot to the end of the call with the result; None if there is none."""
    ahead = {spot: None}
    queue = [spot]
    at = 0
    while at < len(queue):
        here = queue[at]
        deed, targets = table[here]
        if deed == ("end", result):
            return path_to(ahead, here)
        for branch, target in enumerate(targets):
            if target not in ahead:
                ahead[target] = (here, branch)
                queue.append(target)
        at += 1
    return None


def way_to_end(table, entries, result):
    """The first entry from which a call can come to its end with the result.

    Returns its number and the path to the end from there; one of the entries is known to lead there.
    """
    for number, spot in enumerate(entries):
        path = None if spot is None else path_to_end(table, spot, result)
        if path is not None:
            return (number, path)
    return None


def deeds_down(ground, outlook, run, depth, result):
    """Deeds of a history after which the call at the depth goes on with the result."""
    found = []
    for entries, results in outlook[depth:]:
        number, path = way_to_end(ground.table, entries, result)
        # A call ends before the one below it goes on, so what is found for it comes ahead.
        found = deeds_along(ground.table, entries[number], path, run) + [("step", run, None)] + found
        result = number
    return found


def apart(one, other):
    """A history that tells two houses apart, or None if they are alike."""
    if view(one) != view(other):
        return []
    ground = common_ground(one, other)
    pair = parted_pair(one, other, ground)
    if pair is None:
        return None
    way, spot, other_spot = pair
    ahead, last = meet_pairs(ground.table, spot, ground.table, other_spot)
    path = path_to(ahead, last)
    if way[0] == "begin":
        return [way] + deeds_along(ground.table, spot, path, len(one.tracks))
    word, run, depth, result = way
    lead = deeds_down(ground, ground.outlook(one.tracks[run].calls), run, depth, result)
    return lead + deeds_along(ground.table, spot, path, run)
