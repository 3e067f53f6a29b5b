"""callsover/classes.py: classes of alike stands, against rounds of splitting all of them."""

import random
import time
import unittest

from callsover.classes import classes_of
from tests.helpers import Case


def slow_groups(table):
    """The classes as a set of sets of stands."""
    groups, count = {stand: 0 for stand in table}, 0
    while count < len(set(groups.values())):
        count = len(set(groups.values()))
        marks = {stand: (deed, tuple(groups[t] for t in targets)) for stand, (deed, targets) in table.items()}
        numbers = {mark: at for at, mark in enumerate(dict.fromkeys(marks.values()))}
        groups = {stand: numbers[marks[stand]] for stand in table}
    return as_sets(groups)


def as_sets(groups):
    found = {}
    for stand, group in groups.items():
        found.setdefault(group, set()).add(stand)
    return {frozenset(stands) for stands in found.values()}


def some_table(source, count, branches):
    """Few deeds, and branches that lead near by or to a few stands that many lead to."""
    hubs = [source.randrange(count) for _ in range(3)]
    table = {}
    for stand in range(count):
        if source.random() < 0.1:
            table[stand] = (("end", source.randrange(2)), ())
        else:
            ways = [source.choice(hubs + [(stand + 1) % count] * 3 + [source.randrange(count)]) for _ in range(branches)]
            table[stand] = (("ask",) if source.random() < 0.9 else ("read", 0), tuple(ways))
    return table


class Classes(Case):
    def test_like_the_slow_way(self):
        source = random.Random(3)
        for count in list(range(0, 12)) + [20, 40, 80]:
            for branches in (1, 2, 3, 4):
                for _ in range(40):
                    table = some_table(source, count, branches) if count else {}
                    found = classes_of(table)
                    self.assertEqual(list(found), list(table))
                    self.assertEqual(as_sets(found), slow_groups(table), table)

    def test_most_of_a_class_moves(self):
        # The stands from 10 on differ only by the hub, 0 or 1, that they lead to; few lead to the hub 0,
        # and what tells the hubs apart, the end at 5, comes late.
        table = {0: (("say", 0), (2,)), 1: (("say", 0), (3,)), 2: (("say", 0), (4,)), 3: (("say", 0), (5,)),
                 4: (("say", 0), (6,)), 5: (("end", 0), ()), 6: (("say", 0), (6,))}
        for few in (1, 3, 10, 17, 19):
            more = {10 + at: (("ask",), (0 if at < few else 1, 10 + (at + 1) % 20)) for at in range(20)}
            table.update(more)
            self.assertEqual(as_sets(classes_of(table)), slow_groups(table))

    def test_long_chains_take_a_short_time(self):
        count = 20000
        chain = {at: (("say", 0), (at + 1,)) for at in range(count)}
        chain[count] = (("end", 0), ())
        start = time.perf_counter()
        self.assertEqual(len(set(classes_of(chain).values())), count + 1)
        # Twice the chain: one end is told apart from all others first.
        back = {at: (("ask",), (at + 1, count)) for at in range(count)}
        back[count] = (("end", 0), ())
        self.assertEqual(len(set(classes_of(back).values())), count + 1)
        self.assertLess(time.perf_counter() - start, 10)


if __name__ == "__main__":
    unittest.main()
