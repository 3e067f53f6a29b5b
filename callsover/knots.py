"""Knots: classes of stands that lead to each other, so that none of them can be numbered before the others.

A class is given as (deed, ways), with a way for each branch. A way from 0 on is the number of a class that
has one already; the way -1 - k leads to the class k of those that are looked at.
"""

from callsover.classes import sources_of, split_classes


def inner_targets(ways):
    """The classes to which ways lead, of those that are looked at."""
    return [-1 - way for way in ways if way < 0]


def outer_mark(entry):
    """What is known of a class without the others that are looked at: its deed and its ways to numbered classes."""
    deed, ways = entry
    return (deed, tuple([max(way, -1) for way in ways]))


def merge(entries):
    """Make one class of those that are alike.

    Returns for each entry the number of its class, and for each class an entry with ways to such classes.
    """
    classes = split_classes([outer_mark(entry) for entry in entries], [inner_targets(ways) for deed, ways in entries])
    merged = {}
    for number, (deed, ways) in zip(classes, entries):
        if number not in merged:
            merged[number] = (deed, tuple([way if way >= 0 else -1 - classes[-1 - way] for way in ways]))
    return classes, [merged[number] for number in range(len(merged))]


def finishing_order(targets):
    """All states, in the order in which a walk that goes down first is finished with them."""
    order = []
    met = set()
    waiting = [(state, False) for state in range(len(targets))]
    while waiting:
        state, finished = waiting.pop()
        if finished:
            order.append(state)
        elif state not in met:
            met.add(state)
            waiting.append((state, True))
            waiting.extend([(target, False) for target in targets[state]])
    return order


def components(targets):
    """The states in groups that lead to each other; each group comes behind those to which it leads."""
    sources = sources_of(targets)
    groups = []
    placed = set()
    # In this order whatever leads to a state and is not yet placed can also be reached from it.
    for start in reversed(finishing_order(targets)):
        if start not in placed:
            group = []
            waiting = [start]
            while waiting:
                state = waiting.pop()
                if state not in placed:
                    placed.add(state)
                    group.append(state)
                    waiting.extend(sources[state])
            groups.append(group)
    return groups[::-1]


def ranks_of(marks):
    """For each class the rank of its mark among all marks."""
    ranks = {mark: rank for rank, mark in enumerate(sorted(set(list(marks.values()))))}
    return {state: ranks[marks[state]] for state in marks}


def single_of(ranks):
    """The class with the least rank that no other class has, None if there is none."""
    states = {}
    for state in ranks:
        states.setdefault(ranks[state], []).append(state)
    alone = [rank for rank in states if len(states[rank]) == 1]
    return states[min(alone)][0] if alone else None


def first_of(knot):
    """A class of a knot that is chosen by what the classes do, not by their numbers."""
    ranks = ranks_of({state: outer_mark(knot[state]) for state in knot})
    # No two classes of a knot are alike, so in the end each has a rank of its own.
    while single_of(ranks) is None:
        marks = {}
        for state in knot:
            deed, ways = knot[state]
            marks[state] = tuple([ranks[state]] + [ranks[target] for target in inner_targets(ways)])
        ranks = ranks_of(marks)
    return single_of(ranks)


def ordered(knot):
    """The classes of a knot in an order that depends on what they do alone."""
    order = [first_of(knot)]
    met = set(order)
    at = 0
    while at < len(order):
        for target in inner_targets(knot[order[at]][1]):
            if target not in met:
                met.add(target)
                order.append(target)
        at += 1
    return order


def shape_of(knot, order):
    """What the classes of a knot do, in the order; ways within the knot tell the position in it."""
    positions = {state: at for at, state in enumerate(order)}
    return tuple([
        (knot[state][0], tuple([way if way >= 0 else -1 - positions[-1 - way] for way in knot[state][1]]))
        for state in order
    ])
