"""Rests: what a call can still do from a stand on, and which stands are alike."""

from callsover.classes import classes_of
from callsover.errors import NoBranch
from callsover.stands import check_stand, deed_at, is_stand, targets_at, walk


def table_from(text, stands, base):
    """Map each stand that can be walked to from the stands to its deed and its targets."""
    table = {}
    landed = {}
    waiting = list(stands)
    while waiting:
        here = waiting.pop()
        if here not in table:
            targets = targets_at(text, here, base, landed)
            table[here] = (deed_at(text, here, base), targets)
            waiting.extend(targets)
    return table


def meet_pairs(table, stand, other_table, other_stand):
    """Go through the pairs that paths lead to, up to the first pair with different deeds.

    Returns the pair and the branch ahead of each pair that was met, and that first pair or None.
    """
    start = (stand, other_stand)
    ahead = {start: None}
    queue = [start]
    # Shorter paths come first in the queue, and among equally long ones the lesser;
    # so each pair is met by its first path.
    at = 0
    while at < len(queue):
        here = queue[at]
        deed, targets = table[here[0]]
        other_deed, other_targets = other_table[here[1]]
        if deed != other_deed:
            return ahead, here
        for branch, pair in enumerate(zip(targets, other_targets)):
            if pair not in ahead:
                ahead[pair] = (here, branch)
                queue.append(pair)
        at += 1
    return ahead, None


def path_to(ahead, pair):
    """The path by which a pair was met."""
    path = []
    here = pair
    while ahead[here] is not None:
        here, branch = ahead[here]
        path.append(branch)
    return path[::-1]


def compare(text, stand, other_text, other_stand, base):
    """Refuse values that are no stands; otherwise go through the pairs that paths lead to."""
    check_stand(text, stand, base)
    check_stand(other_text, other_stand, base)
    table = table_from(text, [stand], base)
    other_table = table_from(other_text, [other_stand], base)
    return meet_pairs(table, stand, other_table, other_stand)


def parting(text, stand, other_text, other_stand, *, base=3):
    """The parting of two stands, or None if they are alike."""
    ahead, parted = compare(text, stand, other_text, other_stand, base)
    return None if parted is None else path_to(ahead, parted)


def paper(text, stand, other_text, other_stand, *, base=3):
    """The paper that shows that two stands are alike, or that they are not."""
    ahead, parted = compare(text, stand, other_text, other_stand, base)
    if parted is None:
        return ("alike", tuple(sorted(ahead)))
    return ("apart", tuple(path_to(ahead, parted)))


def is_pair(thing, text, other_text, base):
    """Tell whether any value is a pair of stands of the two texts."""
    if not isinstance(thing, tuple) or len(thing) != 2:
        return False
    return is_stand(text, thing[0], base) and is_stand(other_text, thing[1], base)


def is_closed(pair, known, table, other_table):
    """Tell whether the deeds of a pair are equal and its branches lead to known pairs."""
    deed, targets = table[pair[0]]
    other_deed, other_targets = other_table[pair[1]]
    if deed != other_deed:
        return False
    return all([reached in known for reached in zip(targets, other_targets)])


def shows_alike(pairs, text, other_text, start, base):
    """Tell whether the pairs show that the two stands of the start are alike."""
    if not all([is_pair(pair, text, other_text, base) for pair in pairs]):
        return False
    known = {pair: True for pair in pairs}
    if len(known) != len(pairs) or start not in known:
        return False
    table = table_from(text, [pair[0] for pair in pairs], base)
    other_table = table_from(other_text, [pair[1] for pair in pairs], base)
    return all([is_closed(pair, known, table, other_table) for pair in pairs])


def shows_apart(path, text, other_text, start, base):
    """Tell whether the path shows that the two stands of the start are not alike."""
    try:
        last = walk(text, start[0], path, base=base)[-1]
        other_last = walk(other_text, start[1], path, base=base)[-1]
    except NoBranch:
        return False
    return deed_at(text, last, base) != deed_at(other_text, other_last, base)


def lets_by(claim, text, stand, other_text, other_stand, *, base=3):
    """Tell whether any value is a paper about the two stands that holds."""
    check_stand(text, stand, base)
    check_stand(other_text, other_stand, base)
    if not isinstance(claim, tuple) or len(claim) != 2 or not isinstance(claim[1], tuple):
        return False
    start = (stand, other_stand)
    if claim[0] == "alike":
        return shows_alike(claim[1], text, other_text, start, base)
    if claim[0] == "apart":
        return shows_apart(claim[1], text, other_text, start, base)
    return False


def least_table(text, stand, *, base=3):
    """The least table of a stand."""
    check_stand(text, stand, base)
    table = table_from(text, [stand], base)
    classes = classes_of(table)
    numbers = {classes[stand]: 0}
    firsts = [stand]
    entries = []
    while len(entries) < len(firsts):
        deed, targets = table[firsts[len(entries)]]
        for target in targets:
            if classes[target] not in numbers:
                numbers[classes[target]] = len(firsts)
                firsts.append(target)
        entries.append((deed, tuple([numbers[classes[reached]] for reached in targets])))
    return entries
