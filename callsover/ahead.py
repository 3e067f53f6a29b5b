"""Looking ahead: how long calls can go on through kept classes before they are over or placed.

A call is given by its entries: the class of its stand for the top call, the classes at which it can continue
for a waiting call, None where it cannot. What is known of the newest texts is a `Newest`.
"""


def entries_latest(entries, newest):
    """The latest of the place of a call."""
    reached = [newest.latest_of(number) for number in entries if number is not None]
    return None if None in reached else max(reached, default=0)


def endless_branch(entries, newest):
    """The first of the entries with the latest None, as (branch, class)."""
    for branch, number in enumerate(entries):
        if number is not None and newest.latest_of(number) is None:
            return (branch, number)
    return None


def ring_from(number, newest):
    """The lead and the round from a kept class whose latest is None."""
    met = {number: 0}
    path = []
    # A class whose latest is None has a branch to another such class; there are finitely many.
    while True:
        branch, number = endless_branch(newest.targets_of(number), newest)
        path.append(branch)
        if number in met:
            at = met[number]
            return (tuple(path[:at]), tuple(path[at:]))
        met[number] = len(path)


def ring_of(entries, is_top, newest):
    """The ring of a call, or None if its latest is an integer."""
    found = endless_branch(entries, newest)
    if found is None:
        return None
    result, number = found
    lead, back = ring_from(number, newest)
    return (None if is_top else result, lead, back)
