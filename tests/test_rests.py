"""Points 10 to 13: alike stands, partings, papers and least tables."""

import itertools
import random
import unittest

from callsover.errors import NoStand
from callsover.rests import least_table, lets_by, paper, parting
from callsover.stands import MUTE, stands_of
from tests.helpers import (
    BASES, ODD_VALUES, Case, same, slow_classes, slow_deed, slow_parting, slow_reach, slow_targets, some_texts,
    with_idle_rows,
)
from tests.test_stands import TEXTS, no_stands

F = (("ask", "x"), ("say", "x"))
G = (("ask", "x"), ("say", 0))
# Both ask and say what they received, forever; the second in rounds that are twice as long.
LOOP = (("ask", "x"), ("say", "x"), ("go", 0))
LONG_LOOP = (("ask", "y"), ("say", "y"), ("ask", "x"), ("say", "x"), ("go", 0))


def pairs_of_stands(base, texts=30, seed=1):
    """Texts and stands to compare: of the same text, of a like one, of another one."""
    source = random.Random(seed)
    found = some_texts(texts, base, most=5, seed=seed)
    for at, text in enumerate(found):
        for other_text in (text, with_idle_rows(text), found[at - 1]):
            stands = stands_of(text, base=base) + [MUTE]
            other_stands = stands_of(other_text, base=base) + [MUTE]
            for _ in range(3):
                one = source.choice(stands)
                deed = slow_deed(text, one, base)
                equal = [other for other in other_stands if slow_deed(other_text, other, base) == deed]
                yield text, one, other_text, source.choice(other_stands)
                yield text, one, other_text, source.choice(equal or other_stands)


class Parting(Case):
    def test_examples_and_the_default_base(self):
        self.assert_same(parting(F, (0, 0, 0), G, (0, 1, 1)), [1])
        self.assert_same(parting(F, (0, 0, 0), F, (0, 1, 1)), None)
        text, other = (("ask", "x"), ("if", "x", 2, 3), ("say", 0)), (("ask", "x"), ("say", 0))
        self.assert_same(parting(text, (0, 0, 0), other, (0, 0, 0)), [2])
        self.assert_same(parting(text[:1] + (("if", "x", 1, 3),) + text[2:], (0, 0, 0), other, (0, 0, 0), base=2), [1])

    def test_the_empty_path_if_the_deeds_differ(self):
        text = (("say", "x"), ("end", "x"), ("write", 0, 0), ("write", 1, 0), ("call", "f", "x", "x"),
                ("call", "g", 0, "x"), ("read", 0, "x"), ("read", 1, "x"), ("ask", "x"), ("write", 0, "x"))
        stands = stands_of(text, base=2) + [MUTE]
        for one, other in itertools.product(stands, stands):
            if slow_deed(text, one, 2) != slow_deed(text, other, 2):
                self.assert_same(parting(text, one, text, other, base=2), [])

    def test_the_end_of_a_text_is_like_end_0(self):
        for base in BASES:
            self.assert_same(parting((), (0, 1, 0), (("end", 0),), (0, 0, 1), base=base), None)
            self.assert_same(parting((), (0, 0, 0), (("end", 1),), (0, 0, 0), base=base), [])
            self.assert_same(parting((), MUTE, (("go", 0),), MUTE, base=base), None)
            self.assert_same(parting((), MUTE, (), (0, 0, 0), base=base), [])

    def test_the_variable_of_a_row_does_not_matter_by_itself(self):
        self.assert_same(parting((("ask", "x"), ("end", "x")), (0, 0, 2), (("ask", "y"), ("end", "y")), (0, 1, 0)), None)
        self.assert_same(parting((("ask", "x"), ("end", "y")), (0, 0, 2), (("ask", "y"), ("end", "y")), (0, 1, 0)), [0])
        self.assert_same(parting((("ask", "x"), ("end", "y")), (0, 0, 0), (("ask", "y"), ("end", "y")), (0, 1, 0)), [1])

    def test_shorter_paths_first(self):
        # Along branch 0 the difference comes after two more steps, along branch 2 after one.
        text = (("ask", "x"), ("if", "x", 2, 5), ("say", 0), ("say", "x"), ("end", 0), ("say", 1), ("end", 0))
        other = (("ask", "x"), ("if", "x", 2, 5), ("say", 0), ("say", ("+", "x", 1)), ("end", 0), ("say", 2), ("end", 0))
        self.assert_same(parting(text, (0, 0, 0), other, (0, 0, 0)), [2])
        self.assert_same(parting(text, (2, 0, 0), other, (2, 0, 0)), [0])

    def test_then_ascending(self):
        # Both answers must not be 0 for a difference.
        text = (("ask", "x"), ("ask", "y"), ("say", ("*", "x", "y")))
        other = (("ask", "x"), ("ask", "y"), ("say", 0))
        for base in BASES:
            self.assert_same(parting(text, (0, 0, 0), other, (0, 0, 0), base=base), [1, 1])
        text = (("ask", "x"), ("ask", "y"), ("say", ("-", "x", "y")))
        other = (("ask", "x"), ("ask", "y"), ("say", ("-", "y", "x")))
        self.assert_same(parting(text, (0, 0, 0), other, (0, 0, 0)), [0, 1])
        self.assert_same(parting(text, (0, 0, 0), other, (0, 0, 0), base=4), [0, 1])
        self.assert_same(parting(text, (0, 0, 0), other, (0, 0, 0), base=2), None)

    def test_a_far_parting(self):
        # The answer 1 counts x up, and only the greatest x is said differently.
        def counter(said):
            return (("ask", "y"), ("if", "y", 0, 0), ("set", "x", ("+", "x", 1)), ("if", "x", 3, 5), ("go", 0),
                    ("say", said), ("go", 0))
        self.assert_same(parting(counter(0), (0, 0, 0), counter(1), (0, 0, 0), base=4), [1, 1, 1])
        self.assert_same(parting(counter(0), (0, 3, 0), counter(1), (0, 3, 0), base=4), [1, 1, 1, 1])
        self.assert_same(parting(counter(0), (0, 1, 0), counter(0), (0, 0, 0), base=4), [1, 1])

    def test_long_loops_of_different_length(self):
        for base in BASES:
            self.assert_same(parting(LOOP, (0, 0, 0), LONG_LOOP, (0, 0, 0), base=base), None)
            self.assert_same(parting(LOOP, (0, 0, 0), LONG_LOOP, (2, 0, 1), base=base), None)
            changed = LONG_LOOP[:3] + (("say", "y"), ("go", 0))
            self.assert_same(parting(LOOP, (0, 0, 0), changed, (0, 0, 0), base=base), [0, 0, 1])

    def test_like_the_slow_way_and_the_other_way_about(self):
        for base in BASES:
            parted = 0
            for text, one, other_text, other in pairs_of_stands(base):
                found = parting(text, one, other_text, other, base=base)
                classes = slow_classes((text, other_text), base)
                self.assertEqual(found is None, classes[0, one] == classes[1, other], (text, one, other_text, other))
                if found is not None:
                    self.assert_same(found, slow_parting(text, one, other_text, other, base, len(found)))
                    parted += len(found) > 0
                self.assert_same(parting(other_text, other, text, one, base=base), found)
            self.assertGreater(parted, 10)

    def test_each_text_with_itself_and_with_idle_rows(self):
        for base in BASES:
            for text in some_texts(40, base, most=6, seed=5):
                stands = stands_of(text, base=base)
                for at in range(0, len(stands), 4):
                    row, x, y = stands[at]
                    self.assert_same(parting(text, stands[at], text, stands[at], base=base), None)
                    moved = (2 * row + (row < len(text)), x, y)
                    self.assert_same(parting(text, stands[at], with_idle_rows(text), moved, base=base), None)


class Paper(Case):
    def test_apart(self):
        self.assert_same(paper(F, (0, 0, 0), G, (0, 1, 1)), ("apart", (1,)))
        self.assert_same(paper(F, (0, 0, 0), G, (1, 1, 1)), ("apart", ()))
        self.assert_same(paper((), MUTE, (), (0, 0, 0)), ("apart", ()))

    def test_alike(self):
        wanted = (((0, 0, 0), (0, 1, 1)), ((1, 0, 0), (1, 0, 1)), ((1, 1, 0), (1, 1, 1)),
                  ((2, 0, 0), (2, 0, 1)), ((2, 1, 0), (2, 1, 1)))
        self.assert_same(paper(F, (0, 0, 0), F, (0, 1, 1), base=2), ("alike", wanted))
        self.assert_same(paper((), (0, 0, 1), (("end", 0),), (0, 2, 2)), ("alike", (((0, 0, 1), (0, 2, 2)),)))
        self.assert_same(paper((), MUTE, F, MUTE), ("alike", ((MUTE, MUTE),)))
        silent = (("say", 1), ("go", 1))
        self.assert_same(paper(silent, (0, 2, 0), silent, (0, 0, 0)),
                         ("alike", ((MUTE, MUTE), ((0, 2, 0), (0, 0, 0)))))

    def test_the_default_base(self):
        self.assertEqual(len(paper(F, (0, 0, 0), F, (0, 1, 1))[1]), 7)

    def test_all_pairs_in_ascending_order(self):
        for base in BASES:
            alike = 0
            for text, one, other_text, other in pairs_of_stands(base, seed=2):
                found = paper(text, one, other_text, other, base=base)
                path = parting(text, one, other_text, other, base=base)
                if path is not None:
                    self.assert_same(found, ("apart", tuple(path)))
                    continue
                reached = [(one, other)]
                for left, right in reached:
                    ways = zip(slow_targets(text, left, base), slow_targets(other_text, right, base))
                    reached.extend(pair for pair in dict.fromkeys(ways) if pair not in reached)
                self.assert_same(found, ("alike", tuple(sorted(reached))))
                alike += len(reached) > 1
            self.assertGreater(alike, 10)

    def test_loops_of_different_length_meet_in_all_ways(self):
        text = (("ask", "x"),) * 13 + (("go", 0),)
        other = (("ask", "x"),) * 15 + (("go", 0),)
        kind, pairs = paper(text, (0, 0, 0), other, (0, 0, 0), base=2)
        self.assertEqual(kind, "alike")
        # Each row with each row, x is what both received; the first pair is among them.
        wanted = sorted(((row, x, 0), (other_row, x, 0)) for row in range(13) for other_row in range(15) for x in (0, 1))
        self.assert_same(pairs, tuple(wanted))


class LetsBy(Case):
    def holds(self, wanted, claim, text, stand, other_text, other_stand, base):
        got = lets_by(claim, text, stand, other_text, other_stand, base=base)
        self.assert_same(got, wanted, (claim, text, stand, other_text, other_stand, base))

    def test_papers_hold(self):
        for base in BASES:
            for text, one, other_text, other in pairs_of_stands(base, seed=3):
                claim = paper(text, one, other_text, other, base=base)
                self.holds(True, claim, text, one, other_text, other, base)

    def test_no_value_shows_what_is_not_so(self):
        for base in BASES:
            for text, one, other_text, other in pairs_of_stands(base, texts=12, seed=4):
                classes = slow_classes((text, other_text), base)
                same_class = [(s, t) for (at, s), (to, t) in itertools.product(classes, classes)
                              if (at, to) == (0, 1) and classes[at, s] == classes[to, t]]
                alike = classes[0, one] == classes[1, other]
                # All alike pairs together are closed, so they hold exactly if the two stands are among them.
                self.holds(alike, ("alike", tuple(same_class)), text, one, other_text, other, base)
                if alike:
                    for length in range(4):
                        for path in itertools.product(range(base), repeat=length):
                            self.holds(False, ("apart", path), text, one, other_text, other, base)

    def test_the_default_base(self):
        self.assert_same(lets_by(("apart", (2,)), F, (0, 0, 0), G, (0, 1, 1)), True)
        self.assert_same(lets_by(("apart", (2,)), F, (0, 0, 0), G, (0, 1, 1), base=2), False)
        self.assert_same(lets_by(("apart", (3,)), F, (0, 0, 0), G, (0, 1, 1)), False)

    def test_any_value_where_a_path_parts(self):
        case = (F, (0, 0, 0), G, (0, 1, 1), 3)
        for value in ODD_VALUES:
            self.holds(False, value, *case)
            self.holds(False, (value,), *case)
            self.holds(False, ("apart", value), *case)
            self.holds(same(value, 1) or same(value, 2), ("apart", (value,)), *case)
            self.holds(same(value, "apart"), (value, (1,)), *case)
            self.holds(False, ("apart", (1,), value), *case)
            self.holds(False, ("alike", value), *case)
            self.holds(False, ("alike", (value,)), *case)

    def test_any_value_where_pairs_show_alike(self):
        case = (F, MUTE, G, MUTE, 3)
        good = ((MUTE, MUTE),)
        self.holds(True, ("alike", good), *case)
        for value in ODD_VALUES:
            self.holds(False, value, *case)
            self.holds(False, ("alike", value), *case)
            self.holds(False, ("alike", (value,)), *case)
            self.holds(False, ("alike", good + (value,)), *case)
            self.holds(False, ("alike", (value,) + good), *case)
            self.holds(False, ("alike", ((MUTE, value),)), *case)
            self.holds(False, ("alike", ((value, MUTE),)), *case)
            self.holds(same(value, "alike"), (value, good), *case)
            self.holds(False, ("alike", good, value), *case)
            self.holds(False, ("apart", value), *case)

    def alike_case(self):
        """Two alike stands, with the pairs that show it."""
        case = (F, (0, 0, 0), with_idle_rows(F), (1, 1, 1), 2)
        text, one, other_text, other, base = case
        return case, paper(text, one, other_text, other, base=base)[1]

    def test_pairs_in_any_order(self):
        case, pairs = self.alike_case()
        self.assertEqual(len(pairs), 5)
        for turned in itertools.permutations(pairs):
            self.holds(True, ("alike", turned), *case)

    def test_pairs_left_out(self):
        case, pairs = self.alike_case()
        for count in range(len(pairs)):
            for chosen in itertools.combinations(pairs, count):
                self.holds(False, ("alike", chosen), *case)

    def test_pairs_repeated(self):
        case, pairs = self.alike_case()
        for pair in pairs:
            self.holds(False, ("alike", pairs + (pair,)), *case)
            self.holds(False, ("alike", (pair,) + pairs), *case)
        self.holds(False, ("alike", pairs + pairs), *case)

    def test_pairs_turned(self):
        case, pairs = self.alike_case()
        for at, (left, right) in enumerate(pairs):
            self.holds(False, ("alike", pairs[:at] + ((right, left),) + pairs[at + 1:]), *case)
        self.holds(False, ("alike", tuple((right, left) for left, right in pairs)), *case)

    def test_pairs_replaced(self):
        case, pairs = self.alike_case()
        for at, (left, right) in enumerate(pairs):
            for value in ODD_VALUES + (list(pairs[at]), (left,), (left, right, right), (list(left), right), pairs):
                for pair in (value, (value, right), (left, value)):
                    self.assertFalse(same(pair, pairs[at]))
                    self.holds(False, ("alike", pairs[:at] + (pair,) + pairs[at + 1:]), *case)
                    self.holds(False, ("alike", pairs + (pair,)), *case)

    def test_truth_values_for_numbers(self):
        case, pairs = self.alike_case()
        for at, pair in enumerate(pairs):
            for side, place in itertools.product((0, 1), (0, 1, 2)):
                if pair[side][place] in (0, 1):
                    stand = list(pair[side])
                    stand[place] = bool(stand[place])
                    changed = list(pair)
                    changed[side] = tuple(stand)
                    self.assertEqual(tuple(changed), pair)
                    self.holds(False, ("alike", pairs[:at] + (tuple(changed),) + pairs[at + 1:]), *case)

    def test_lists_for_tuples(self):
        case, pairs = self.alike_case()
        self.holds(True, ("alike", pairs), *case)
        self.holds(False, ["alike", pairs], *case)
        self.holds(False, ("alike", list(pairs)), *case)
        self.holds(False, ("alike", tuple(list(pair) for pair in pairs)), *case)
        self.holds(False, ("alike", tuple((list(left), right) for left, right in pairs)), *case)
        self.holds(False, ("alike", tuple((left, list(right)) for left, right in pairs)), *case)

    def test_further_pairs_that_are_closed(self):
        case, pairs = self.alike_case()
        text, _, other_text, _, base = case
        self.holds(True, ("alike", pairs + ((MUTE, MUTE),)), *case)
        self.holds(True, ("alike", ((MUTE, MUTE),) + pairs), *case)
        further = paper(text, (0, 1, 0), other_text, (1, 0, 0), base=base)[1]
        self.assertFalse(set(further) & set(pairs))
        self.holds(True, ("alike", further + pairs), *case)
        self.holds(True, ("alike", pairs + further + ((MUTE, MUTE),)), *case)
        for at in range(len(further)):
            # What leads to the pair that is left out is no longer closed.
            left_out = further[at]
            rest = further[:at] + further[at + 1:]
            good = left_out == ((0, 1, 0), (1, 0, 0))
            self.holds(good, ("alike", pairs + rest), *case)

    def test_further_pairs_with_different_deeds(self):
        case, pairs = self.alike_case()
        self.holds(False, ("alike", pairs + ((MUTE, (4, 0, 0)),)), *case)
        self.holds(False, ("alike", pairs + (((2, 0, 0), MUTE),)), *case)
        self.holds(False, ("alike", pairs + (((2, 0, 0), (5, 0, 0)),)), *case)
        # Both end with 0 in another way than the pairs do.
        self.holds(True, ("alike", pairs + (((2, 0, 0), (6, 1, 1)),)), *case)

    def test_further_pairs_of_stands_that_are_not_those_of_the_texts(self):
        case, pairs = self.alike_case()
        for pair in (((3, 0, 0), (4, 0, 0)), ((2, 2, 0), (4, 0, 0)), ((2, 0, 0), (4, 0, 2)), ((2, 0, 0), (0, 0, 0)),
                     ((-1, 0, 1), MUTE), (MUTE, (-2, 0, 0)), ((2, 0, 0), (7, 0, 0))):
            self.holds(False, ("alike", pairs + (pair,)), *case)

    def test_closed_pairs_without_the_two_stands(self):
        case, pairs = self.alike_case()
        self.holds(False, ("alike", ()), *case)
        self.holds(False, ("alike", ((MUTE, MUTE),)), *case)
        self.holds(False, ("alike", pairs[1:]), *case)

    def test_a_loop_needs_all_its_pairs(self):
        for base in BASES:
            pairs = paper(LOOP, (0, 0, 0), LONG_LOOP, (0, 0, 0), base=base)[1]
            self.holds(True, ("alike", pairs[::-1]), LOOP, (0, 0, 0), LONG_LOOP, (0, 0, 0), base)
            for at in range(len(pairs)):
                claim = ("alike", pairs[:at] + pairs[at + 1:])
                self.holds(False, claim, LOOP, (0, 0, 0), LONG_LOOP, (0, 0, 0), base)
            # The same pairs, told of two stands that are another one of them.
            for one, other in pairs:
                self.holds(True, ("alike", pairs), LOOP, one, LONG_LOOP, other, base)

    def test_alike_is_not_shown_by_equal_deeds_alone(self):
        pairs = paper(F, (0, 0, 0), F, (0, 0, 0))[1]
        self.holds(True, ("alike", pairs), F, (0, 0, 0), F, (0, 0, 0), 3)
        self.holds(False, ("alike", pairs), F, (0, 0, 0), G, (0, 0, 0), 3)
        self.holds(False, ("alike", (((0, 0, 0), (0, 0, 0)),)), F, (0, 0, 0), G, (0, 0, 0), 3)

    def test_paths_that_part(self):
        self.holds(True, ("apart", (1,)), F, (0, 0, 0), G, (0, 1, 1), 3)
        self.holds(True, ("apart", (2,)), F, (0, 0, 0), G, (0, 1, 1), 3)
        self.holds(False, ("apart", (0,)), F, (0, 0, 0), G, (0, 1, 1), 3)
        self.holds(False, ("apart", ()), F, (0, 0, 0), G, (0, 1, 1), 3)
        self.holds(False, ("apart", [1]), F, (0, 0, 0), G, (0, 1, 1), 3)
        self.holds(False, ["apart", (1,)], F, (0, 0, 0), G, (0, 1, 1), 3)
        self.holds(False, ("alike", (1,)), F, (0, 0, 0), G, (0, 1, 1), 3)
        self.holds(False, ("apart", (True,)), F, (0, 0, 0), G, (0, 1, 1), 3)
        self.holds(False, ("apart", (3,)), F, (0, 0, 0), G, (0, 1, 1), 3)
        self.holds(False, ("apart", (-1,)), F, (0, 0, 0), G, (0, 1, 1), 3)
        self.holds(False, ("apart", ((1,),)), F, (0, 0, 0), G, (0, 1, 1), 3)
        self.holds(False, ("apart", ([],)), F, (0, 0, 0), G, (0, 1, 1), 3)

    def test_the_deeds_on_the_way_do_not_matter(self):
        text = (("ask", "x"), ("say", "x"), ("end", "x"))
        other = (("read", 0, "x"), ("say", ("+", "x", 1)), ("end", 0))
        self.holds(True, ("apart", ()), text, (0, 0, 0), other, (0, 0, 0), 3)
        self.holds(True, ("apart", (0,)), text, (0, 0, 0), other, (0, 0, 0), 3)
        self.holds(False, ("apart", (0, 0)), text, (0, 0, 0), other, (0, 0, 0), 3)
        self.holds(True, ("apart", (1, 0)), text, (0, 0, 0), other, (0, 0, 0), 3)
        self.holds(True, ("apart", (2, 0)), text, (0, 0, 0), other, (0, 0, 0), 3)
        self.holds(False, ("apart", (2, 0, 0)), text, (0, 0, 0), other, (0, 0, 0), 3)

    def test_a_path_must_be_walked_from_both(self):
        text = (("ask", "x"), ("say", 0), ("say", 0))
        other = (("ask", "x"), ("end", 1))
        self.holds(True, ("apart", (1,)), text, (0, 0, 0), other, (0, 0, 0), 2)
        self.holds(False, ("apart", (1, 0)), text, (0, 0, 0), other, (0, 0, 0), 2)
        self.holds(False, ("apart", (1, 0)), other, (0, 0, 0), text, (0, 0, 0), 2)
        self.holds(False, ("apart", (1,)), (("ask", "x"),), (0, 0, 0), (("say", 0),), (0, 0, 0), 2)
        self.holds(False, ("apart", (1,)), (("say", 0),), (0, 0, 0), (("ask", "x"),), (0, 0, 0), 2)
        self.holds(True, ("apart", (0,)), (("say", 0), ("say", 1)), (0, 0, 0), (("ask", "x"),), (0, 0, 0), 2)

    def test_all_short_paths(self):
        for base in BASES:
            for text, one, other_text, other in pairs_of_stands(base, texts=10, seed=8):
                for length in range(4):
                    for path in itertools.product(range(base + 1), repeat=length):
                        self.holds(self.parts(text, one, other_text, other, path, base),
                                   ("apart", path), text, one, other_text, other, base)

    def parts(self, text, one, other_text, other, path, base):
        for branch in path:
            ways, other_ways = slow_targets(text, one, base), slow_targets(other_text, other, base)
            if branch >= len(ways) or branch >= len(other_ways):
                return False
            one, other = ways[branch], other_ways[branch]
        return slow_deed(text, one, base) != slow_deed(other_text, other, base)

    def test_large_papers(self):
        text = (("ask", "x"), ("go", 0))
        other = (("ask", "x"), ("ask", "x"), ("go", 0))
        self.holds(False, ("apart", (1, 2) * 10000), text, (0, 0, 0), other, (0, 0, 0), 3)
        self.holds(True, ("apart", (1, 2) * 10000), text, (0, 0, 0), (("read", 0, "x"), ("go", 0)), (0, 0, 0), 3)
        self.holds(False, ("alike", tuple(((0, 0, 0), (0, 0, 0)) for _ in range(3000))), text, (0, 0, 0), other, (0, 0, 0), 3)
        long, longer = (("ask", "x"), ("ask", "y")) * 7 + (("go", 0),), (("ask", "x"), ("ask", "y")) * 6 + (("go", 0),)
        claim = paper(long, (0, 0, 0), longer, (0, 0, 0), base=4)
        self.assertGreater(len(claim[1]), 1000)
        self.holds(True, claim, long, (0, 0, 0), longer, (0, 0, 0), 4)
        self.holds(False, ("alike", claim[1][:-1]), long, (0, 0, 0), longer, (0, 0, 0), 4)


class LeastTable(Case):
    def test_examples_and_the_default_base(self):
        self.assert_same(least_table((("ask", "x"), ("end", 1)), (0, 0, 0), base=2),
                         [(("ask",), (1, 1)), (("end", 1), ())])
        self.assert_same(least_table((("ask", "x"), ("end", 1)), (0, 0, 0)),
                         [(("ask",), (1, 1, 1)), (("end", 1), ())])

    def test_small_tables(self):
        self.assert_same(least_table((), (0, 1, 2)), [(("end", 0), ())])
        self.assert_same(least_table((), MUTE), [(("mute",), ())])
        self.assert_same(least_table((("say", 1), ("go", 0)), (0, 0, 0)), [(("say", 1), (0,))])
        self.assert_same(least_table((("write", 1, "x"),), (0, 2, 0)), [(("write", 1, 2), (1,)), (("end", 0), ())])
        self.assert_same(least_table((("say", 1), ("go", 1)), (0, 0, 0)), [(("say", 1), (1,)), (("mute",), ())])
        self.assert_same(least_table((("call", "f", "y", "x"), ("end", "x")), (0, 0, 1), base=2),
                         [(("call", "f", 1), (1, 2)), (("end", 0), ()), (("end", 1), ())])

    def test_numbered_in_the_order_in_which_they_are_first_met(self):
        text = (("ask", "x"), ("if", "x", 1, 4), ("say", ("-", 0, "x")), ("end", "x"), ("read", 1, "y"), ("end", ("-", 2, "y")))
        self.assert_same(least_table(text, (0, 0, 0)), [
            (("ask",), (1, 2, 3)),
            (("say", 0), (4,)),
            (("read", 1), (5, 6, 4)),
            (("say", 1), (5,)),
            (("end", 0), ()),
            (("end", 2), ()),
            (("end", 1), ()),
        ])

    def test_alike_stands_are_one_entry(self):
        # Five rows, two kinds of behaviour.
        text = (("ask", "x"), ("say", 1), ("ask", "x"), ("say", 1), ("go", 0))
        self.assert_same(least_table(text, (0, 0, 0), base=2), [(("ask",), (1, 1)), (("say", 1), (0,))])
        self.assert_same(least_table(text, (3, 0, 1), base=2), [(("say", 1), (1,)), (("ask",), (0, 0))])

    def test_like_the_slow_way(self):
        for base in BASES:
            for text in some_texts(40, base, most=5, seed=6):
                classes = slow_classes((text,), base)
                for stand in stands_of(text, base=base)[::3] + [MUTE]:
                    reached = slow_reach(text, stand, base)
                    table = least_table(text, stand, base=base)
                    self.assertEqual(len(table), len({classes[0, s] for s in reached}))
                    self.check_entries(text, stand, table, base)

    def check_entries(self, text, stand, table, base):
        """The table shows the same deeds along every path, and its numbers ascend."""
        met = [0]
        for deed, targets in table:
            met.extend(target for target in dict.fromkeys(targets) if target not in met)
        self.assertEqual(met, list(range(len(table))))
        pairs = [(stand, 0)]
        for here, entry in pairs:
            deed, targets = table[entry]
            self.assert_same(deed, slow_deed(text, here, base))
            self.assertIsInstance(targets, tuple)
            ways = slow_targets(text, here, base)
            self.assertEqual(len(targets), len(ways))
            pairs.extend(pair for pair in dict.fromkeys(zip(ways, targets)) if pair not in pairs)

    def test_alike_exactly_if_the_least_tables_are_equal(self):
        for base in BASES:
            for text, one, other_text, other in pairs_of_stands(base, seed=9):
                equal = same(least_table(text, one, base=base), least_table(other_text, other, base=base))
                self.assertEqual(equal, parting(text, one, other_text, other, base=base) is None)

    def test_within_one_text(self):
        for text in some_texts(10, 2, most=6, seed=10) + [LOOP, LONG_LOOP, F, G]:
            classes = slow_classes((text,), 2)
            stands = stands_of(text, base=2) + [MUTE]
            tables = {stand: least_table(text, stand, base=2) for stand in stands}
            for one, other in itertools.product(stands, stands):
                self.assertEqual(tables[one] == tables[other], classes[0, one] == classes[0, other])

    def test_the_largest_texts(self):
        text = (("ask", "x"), ("ask", "y")) * 7 + (("say", ("+", "x", "y")), ("go", 0))
        table = least_table(text, (0, 0, 0), base=4)
        self.check_entries(text, (0, 0, 0), table, 4)
        self.assertEqual(len(table), 6 * 2 + 1 + 4 + 4)


class NoStands(Case):
    def test_the_only_stand(self):
        for base, text in itertools.product(BASES, TEXTS):
            for thing in no_stands(text, base):
                self.assert_raises(NoStand, {}, least_table, text, thing, base=base)

    def test_either_stand(self):
        for base, text in itertools.product(BASES, TEXTS):
            for thing in no_stands(text, base):
                for function in (parting, paper):
                    self.assert_raises(NoStand, {}, function, text, thing, F, (0, 0, 0), base=base)
                    self.assert_raises(NoStand, {}, function, F, (0, 0, 0), text, thing, base=base)
                    self.assert_raises(NoStand, {}, function, text, thing, text, thing, base=base)
                    self.assert_raises(NoStand, {}, function, text, MUTE, text, thing, base=base)
                for claim in (("apart", ()), None, ("alike", ((thing, thing),))):
                    self.assert_raises(NoStand, {}, lets_by, claim, text, thing, F, (0, 0, 0), base=base)
                    self.assert_raises(NoStand, {}, lets_by, claim, F, (0, 0, 0), text, thing, base=base)
                    self.assert_raises(NoStand, {}, lets_by, claim, text, MUTE, text, thing, base=base)

    def test_a_stand_of_the_other_text_only(self):
        short, long = (("say", 0),), (("say", 0), ("say", 0))
        for function in (parting, paper):
            self.assert_raises(NoStand, {}, function, short, (2, 0, 0), long, (1, 0, 0))
            self.assert_raises(NoStand, {}, function, long, (1, 0, 0), short, (2, 0, 0))
        self.assert_raises(NoStand, {}, lets_by, ("apart", ()), short, (2, 0, 0), long, (1, 0, 0))
        self.assert_raises(NoStand, {}, lets_by, ("apart", ()), long, (1, 0, 0), short, (2, 0, 0))


if __name__ == "__main__":
    unittest.main()
