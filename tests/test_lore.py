"""callsover/lore.py, sheets.py and knots.py: numbers of classes, against the slow way."""

import random
import unittest

from callsover.knots import components
from callsover.lore import Lore
from callsover.sheets import landings, point_number, stand_at
from tests.helpers import (
    BASES, Case, slow_classes, slow_deed, slow_reach, slow_settle, slow_stands, slow_targets, some_text, some_texts,
    with_idle_rows,
)

MUTE = (-1, 0, 0)


def looped_text(source, base):
    """Rows that do something and loops over them: most stands lead into rings."""
    rows = [source.choice([("say", source.choice([0, "x", "y"])), ("ask", "x"), ("ask", "y"), ("read", 0, "y"),
                           ("call", "f", "x", "y"), ("write", 1, "x"), ("set", "x", ("+", "x", 1)), ("end", "y"),
                           ("set", "y", ("*", "x", "y")), ("if", "x", "y", source.randrange(7)), ("go", source.randrange(7))])
            for _ in range(source.randint(1, 5))]
    rows = [row if row[0] not in ("if", "go") or row[-1] <= len(rows) + 1 else ("say", 1) for row in rows]
    return tuple(rows) + (("go", source.randrange(len(rows) + 1)),)


def turned(text, by):
    """The same rows in a ring, beginning with another one; rows that lead to rows are not among them."""
    return text[by:] + text[:by] + (("go", 0),)


class Classes(Case):
    def assert_classes(self, lore, texts):
        """Equal numbers are for alike stands, and what is known of a class holds for each of its stands."""
        base = lore.base
        slow = slow_classes(texts, base)
        found = {(at, stand): lore.class_at((texts[at], stand)) for at, stand in slow}
        pairs = {(found[key], slow[key]) for key in slow}
        self.assertEqual(len(pairs), len(set(found.values())), texts)
        self.assertEqual(len(pairs), len(set(slow.values())), texts)
        for (at, stand), number in found.items():
            deed, reached = lore.table[number]
            self.assert_same(deed, slow_deed(texts[at], stand, base))
            self.assertEqual(list(reached), [found[at, to] for to in slow_targets(texts[at], stand, base)])

    def test_like_the_slow_way(self):
        for base in BASES:
            texts = some_texts(60, base, most=6, seed=21)
            source = random.Random(f"loops {base}")
            texts += [looped_text(source, base) for _ in range(60)]
            source.shuffle(texts)
            for at in range(0, len(texts), 6):
                group = texts[at:at + 6] + [with_idle_rows(text) for text in texts[at:at + 6] if len(text) <= 7]
                lore = Lore(base)
                lore.learn(group)
                self.assert_classes(lore, group)
                # In another order, and one after the other.
                lore = Lore(base)
                for text in group[::-1]:
                    lore.learn([text])
                self.assert_classes(lore, group)

    def test_long_texts(self):
        for base in (2, 3):
            source = random.Random(f"long {base}")
            for _ in range(4):
                texts = [some_text(source, base, 16) for _ in range(3)]
                lore = Lore(base)
                lore.learn(texts)
                self.assert_classes(lore, texts)

    def test_no_text_and_mute_texts(self):
        for base in BASES:
            texts = [(), (("go", 0),), (("set", "x", ("+", "x", 1)), ("go", 0)), (("if", "x", 0, 0), ("say", 1))]
            lore = Lore(base)
            lore.learn(texts)
            self.assert_classes(lore, texts)
            self.assertEqual(len({lore.class_at((text, MUTE)) for text in texts}), 1)

    def test_rings_that_begin_with_another_row(self):
        ring = (("say", 0), ("say", 0), ("say", 1), ("ask", "x"), ("say", 0), ("say", 1), ("say", 1), ("ask", "y"))
        for base in BASES:
            texts = [turned(ring, by) for by in range(len(ring))]
            lore = Lore(base)
            lore.learn(texts)
            self.assert_classes(lore, texts)
            # One text is enough for all classes of the ring; the end of the text and MUTE come on top.
            self.assertEqual(len(lore.table), len(ring) + 2)

    def test_rings_whose_rows_differ_late(self):
        # No row of these rings does what no other one does; where a row stands shows only some rows later.
        for word in ("001001011011", "0011", "00101101", "0001011100010111", "01" * 5 + "1" + "01" * 2):
            ring = tuple(("say", int(letter)) for letter in word)[:15]
            texts = [turned(ring, by) for by in (0, 1, 3)] + [turned(ring[::-1], 2), turned(ring[:-1], 0)]
            lore = Lore(2)
            lore.learn(texts)
            self.assert_classes(lore, texts)

    def test_unrolled_rings(self):
        texts = [
            (("say", 1), ("go", 0)), (("say", 1), ("say", 1), ("go", 0)), (("say", 1), ("say", 1), ("go", 1)),
            (("ask", "x"), ("say", 1), ("if", "x", 0, 4), ("go", 1), ("say", 1), ("go", 4)), (("say", 1), ("say", 0), ("go", 0)),
        ]
        for base in BASES:
            lore = Lore(base)
            lore.learn(texts)
            self.assert_classes(lore, texts)
            same = [lore.first_class_of(text, 0) for text in texts[:3]] + [lore.class_at((texts[3], (1, 0, 0)))]
            self.assertEqual(len(set(same)), 1)

    def test_rings_with_ways_out_that_do_the_same(self):
        # Both rows that ask say 1 and end with 1 after 0; one of them goes back to a row above for it.
        text = (("ask", "x"), ("if", "x", 0, 6), ("ask", "x"), ("if", "x", 0, 8), ("go", 0), ("end", 1), ("say", 1),
                ("end", 1), ("say", 1), ("go", 5))
        plain = (("ask", "x"), ("if", "x", 0, 3), ("go", 0), ("say", 1), ("end", 1))
        for base in BASES:
            for texts in ([text, plain], [plain, text]):
                lore = Lore(base)
                lore.learn(texts)
                self.assert_classes(lore, texts)
                same = [lore.class_at(call) for call in ((text, (0, 0, 0)), (text, (2, 1, 0)), (plain, (0, 0, 0)))]
                self.assertEqual(len(set(same)), 1)

    def test_first_classes_least_stands_and_results(self):
        for base in BASES:
            texts = some_texts(40, base, most=6, seed=22)
            lore = Lore(base)
            lore.learn(texts)
            for text in texts:
                for argument in range(base):
                    first = slow_settle(text, 0, argument, 0, base)
                    self.assertEqual(lore.first_class_of(text, argument), lore.class_at((text, first)))
                leasts = {}
                for stand in slow_stands(text, base):
                    leasts.setdefault(lore.class_at((text, stand)), stand)
                    deeds = [slow_deed(text, reached, base) for reached in slow_reach(text, stand, base)]
                    wanted = sorted({deed[1] for deed in deeds if deed[0] == "end"})
                    self.assert_same(lore.outlook([(text, stand)])[0][1], wanted)
                self.assertEqual({number: stand_at(at, base) for number, at in lore.leasts[text].items()}, leasts)


class Twins(Case):
    def test_what_one_learns_does_not_show_in_the_other(self):
        for base in BASES:
            texts = some_texts(18, base, most=5, seed=23)
            one = Lore(base)
            one.learn(texts[:6])
            other = one.twin_lore()
            third = other.twin_lore()
            for lore, more in ((one, texts[6:10]), (other, texts[10:14]), (third, texts[14:]), (one, texts[10:12])):
                known = [(len(l.table), len(l.endings), list(l.forms), list(l.shapes), list(l.sheets), list(l.leasts))
                         for l in (one, other, third) if l is not lore]
                lore.learn(more)
                self.assertEqual(known, [
                    (len(l.table), len(l.endings), list(l.forms), list(l.shapes), list(l.sheets), list(l.leasts))
                    for l in (one, other, third) if l is not lore
                ])
            Classes.assert_classes(self, one, texts[:12])
            Classes.assert_classes(self, other, texts[:6] + texts[10:14])
            Classes.assert_classes(self, third, texts[:6] + texts[14:])


class Sheets(Case):
    def test_where_points_land(self):
        for base in BASES:
            for text in some_texts(150, base, most=8, seed=24) + [((("set", "x", ("+", "x", 1)),) * 15 + (("go", 0),))]:
                landed = landings(text, base, {})
                self.assertEqual(len(landed), (len(text) + 2) * base * base)
                for row in range(len(text) + 1):
                    for x in range(base):
                        for y in range(base):
                            to = slow_settle(text, row, x, y, base)
                            number = point_number(to, base) % len(landed)
                            self.assertEqual(landed[point_number((row, x, y), base)], number)
                            if to != MUTE:
                                self.assertEqual(stand_at(number, base), to)


class Groups(Case):
    def test_groups_that_lead_to_each_other(self):
        source = random.Random(25)
        for count in range(1, 14):
            for _ in range(60):
                targets = [[source.randrange(count) for _ in range(source.randrange(3))] for _ in range(count)]
                reach = [{at} for at in range(count)]
                for _ in range(count):
                    reach = [found.union(*[reach[to] for at in found for to in targets[at]]) for found in reach]
                groups = components(targets)
                self.assertEqual(sorted(at for group in groups for at in group), list(range(count)))
                place = {at: number for number, group in enumerate(groups) for at in group}
                for at in range(count):
                    for to in range(count):
                        self.assertEqual(place[at] == place[to], to in reach[at] and at in reach[to])
                        if to in reach[at]:
                            self.assertLessEqual(place[to], place[at])


if __name__ == "__main__":
    unittest.main()
