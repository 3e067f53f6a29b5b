"""Looking ahead: how long calls can go on through kept classes before they are over or placed."""


def leading_to(entries):
    """For each kept class, the kept classes with branches to it, once for each branch."""
    sources = [[] for entry in entries]
    for number, (deed, places) in enumerate(entries):
        for place in places:
            if place[0] == "kept":
                sources[place[1]].append(number)
    return sources


def latests_of(entries):
    """For each kept class its latest."""
    sources = leading_to(entries)
    missing = [len([place for place in places if place[0] == "kept"]) for deed, places in entries]
    latests = [None for entry in entries]
    ready = [number for number, count in enumerate(missing) if count == 0]
    # A class from which a ring can be reached never becomes ready.
    while ready:
        number = ready.pop()
        reached = [latest_of(place, latests) for place in entries[number][1]]
        latests[number] = 1 + max(reached, default=0)
        for source in sources[number]:
            missing[source] -= 1
            if missing[source] == 0:
                ready.append(source)
    return latests


def latest_of(place, latests):
    """The latest of a place, by those of the kept classes."""
    if place[0] == "kept":
        return latests[place[1]]
    if place[0] != "waits":
        return 0
    reached = [latest_of(entry, latests) for entry in place[1] if entry is not None]
    return None if None in reached else max(reached, default=0)


def endless_branch(places, latests):
    """The first of the places with the latest None, as (branch, kept class)."""
    for branch, place in enumerate(places):
        if place is not None and latest_of(place, latests) is None:
            return (branch, place[1])
    return None


def ring_from(number, entries, latests):
    """The lead and the round from a kept class whose latest is None."""
    met = {number: 0}
    path = []
    # A class whose latest is None has a branch to another such class; there are finitely many.
    while True:
        branch, number = endless_branch(entries[number][1], latests)
        path.append(branch)
        if number in met:
            at = met[number]
            return (tuple(path[:at]), tuple(path[at:]))
        met[number] = len(path)


def ring_of(place, entries, latests):
    """The ring of a call with the place, or None if its latest is an integer."""
    if latest_of(place, latests) is not None:
        return None
    if place[0] == "waits":
        result, number = endless_branch(place[1], latests)
    else:
        result, number = (None, place[1])
    lead, back = ring_from(number, entries, latests)
    return (result, lead, back)
