"""Points 23 and 24: meetings of splits, and rules looked through."""

import random
import unittest

from gluework.errors import GlueError, HasBars
from gluework.meetings import looked_through, meeting
from gluework.rules import is_rule
from samples import (
    EMPTY, ODD_THINGS, Unchanged, assert_likeness, gone_well, slow_done, slow_meets, slow_split_steps, slow_splits,
    some_rule, taken_by,
)

NEW_NAME = r"^[a-z][a-z0-9.]{0,15}$"


def swap(kind, other, name="p", new="q"):
    """A rule that takes out a point and puts one of another kind there."""
    return (({name: kind}, {}), ({new: other}, {}), [])


def loops(kind, other):
    """A rule that changes the kind of a tie from a point to itself, or takes it out, where other is None."""
    return (({"p": "x"}, {"t": (kind, "p", "p")}), ({"p": "x"}, {"n": (other, "p", "p")} if other else {}), [])


ARROW = ({"a": "x", "b": "x"}, {"t": ("k", "a", "b")})
CHAIN = ({"a": "x", "b": "x", "c": "x"}, {"s": ("k", "a", "b"), "t": ("k", "b", "c")})
SHORTEN = (CHAIN, ({"a": "x", "c": "x"}, {"n": ("k", "a", "c")}), [])
DROP = (({"p": "x"}, {}), EMPTY, [])
ADD = (EMPTY, ({"p": "x"}, {}), [])
# x becomes y or z, and each of these becomes w, by one step or more.
DIAMOND = [swap("x", "y"), swap("x", "z"), swap("y", "w"), swap("z", "w")]
LONG_DIAMOND = [
    swap("x", "y"), swap("x", "z"), swap("y", "ya"), swap("ya", "yb"), swap("yb", "w"), swap("z", "za"),
    swap("za", "zb"), swap("zb", "w"),
]


def kept_of(rules, i, j, pairs):
    web, one, other = slow_split_steps(rules[i], rules[j], pairs)
    return web, one, other, set(web[0]) - set(taken_by(one)) - set(taken_by(other))


class Meets(unittest.TestCase):
    def assert_meets(self, rules, i, j, pairs, met, most):
        """What is told is a meeting, by point 23, with rows of at most so many steps."""
        self.assertIsInstance(met, tuple)
        way, other_way, likeness = met
        self.assertLessEqual(max(len(way), len(other_way)), most)
        web, one, other, kept = kept_of(rules, i, j, pairs)
        end = gone_well(self, slow_done(web, one)[1], way, rules, kept, NEW_NAME)
        other_end = gone_well(self, slow_done(web, other)[1], other_way, rules, kept, NEW_NAME)
        assert_likeness(self, end, other_end, likeness, kept)

    def assert_meeting(self, rules, i, j, pairs, most, is_there):
        self.assertTrue(all(is_rule(rule) for rule in rules))
        with Unchanged(self, rules, pairs):
            met = meeting(rules, i, j, pairs, most)
        self.assertIs(is_there, met is not None)
        if met is not None:
            self.assert_meets(rules, i, j, pairs, met, most)

    def assert_looked_through(self, rules, most, told):
        """Point 24, with a slow answer to whether a split has a meeting, or just what is told."""
        with Unchanged(self, rules):
            found = looked_through(rules, most)
        splits = [
            (i, j, pairs) for i in range(len(rules)) for j in range(i, len(rules))
            for pairs in slow_splits(rules[i], rules[j])
        ]
        self.assertIsInstance(found, tuple)
        self.assertEqual(told, found[0] if found[0] == "meet" else found)
        if found[0] == "meet":
            self.assertEqual(2, len(found))
            self.assertIsInstance(found[1], list)
            self.assertEqual(splits, [row[:3] for row in found[1]])
            for i, j, pairs, met in found[1]:
                self.assert_meets(rules, i, j, pairs, met, most)
        else:
            self.assertIn(found[1:], splits)


class Meeting(Meets):
    def test_by_hand(self):
        pairs = [("p", "p")]
        with Unchanged(self, DIAMOND, pairs):
            way, other_way, likeness = meeting(DIAMOND, 0, 1, pairs, 1)
        self.assertEqual([(DIAMOND[2], {"p": "c.q"})], [step[:2] for step in way])
        self.assertEqual([(DIAMOND[3], {"p": "d.q"})], [step[:2] for step in other_way])
        self.assertEqual({way[0][2]["q"]: other_way[0][2]["q"]}, likeness)
        self.assert_meeting(DIAMOND, 0, 1, pairs, 1, True)
        self.assert_meeting(DIAMOND, 1, 0, pairs, 1, True)
        self.assert_meeting(DIAMOND, 0, 1, pairs, 0, False)

    def test_the_same_step_twice_needs_no_row(self):
        for rule, pairs in [
            (DIAMOND[0], [("p", "p")]), (DROP, [("p", "p")]),
            (SHORTEN, [(name, name) for name in ("a", "b", "c", "s", "t")]),
        ]:
            self.assertEqual(([], []), meeting([rule], 0, 0, pairs, 0)[:2])
            self.assert_meeting([rule], 0, 0, pairs, 0, True)
            self.assert_meeting([rule], 0, 0, pairs, 3, True)

    def test_as_many_steps_as_are_needed(self):
        pairs = [("p", "p")]
        for most in range(4):
            self.assert_meeting(LONG_DIAMOND, 0, 1, pairs, most, most == 3)
            self.assert_meeting(LONG_DIAMOND, 1, 0, pairs, most, most == 3)
        # One side alone has to go on.
        for steps in range(4):
            kinds = [f"y{'abc'[k]}" for k in range(steps)] + ["z"]
            rules = [swap("x", kinds[0]), swap("x", "z")] + [swap(one, two) for one, two in zip(kinds, kinds[1:])]
            for most in range(4):
                self.assert_meeting(rules, 0, 1, pairs, most, most >= steps)
                self.assert_meeting(rules, 1, 0, pairs, most, most >= steps)

    def test_no_row_longer_than_most_though_a_longer_one_is_there(self):
        rules = LONG_DIAMOND + [swap("ya", "w"), swap("za", "w")]
        for most in range(4):
            self.assert_meeting(rules, 0, 1, [("p", "p")], most, most >= 2)

    def test_a_chain_shortened_at_either_place(self):
        # A point is left between the ends on each side, and neither is kept by both steps, so one is put to the other.
        pairs = [("b", "a"), ("c", "b"), ("t", "s")]
        self.assertEqual("a.b", meeting([SHORTEN], 0, 0, pairs, 0)[2]["a.c"])
        for most in range(3):
            for pairs in slow_splits(SHORTEN, SHORTEN):
                self.assert_meeting([SHORTEN], 0, 0, pairs, most, True)

    def test_a_point_that_both_keep_is_not_taken_out(self):
        drop = [(({"p": "x"}, {"t": (kind, "p", "p")}), EMPTY, []) for kind in ("l", "m")]
        rules = [loops("k", "l"), loops("k", "m")] + drop
        self.assert_meeting(rules, 0, 1, [("p", "p"), ("t", "t")], 3, False)
        # Where the point is a new one on both sides, it may go.
        new = [
            (({"p": "x"}, {"t": ("k", "p", "p")}), ({"q": "x"}, {"n": (kind, "q", "q")}), []) for kind in ("l", "m")
        ]
        self.assert_meeting(new + drop, 0, 1, [("p", "p"), ("t", "t")], 1, True)
        # Likewise where one of both takes it out.
        self.assert_meeting([rules[0], new[1]] + drop, 0, 1, [("p", "p"), ("t", "t")], 1, True)
        self.assert_meeting([new[0], rules[1]] + drop, 0, 1, [("p", "p"), ("t", "t")], 1, True)

    def test_a_point_that_just_one_match_puts_something_to_and_keeps(self):
        left = ({"p": "x", "r": "y"}, {"t": ("k", "p", "p")})
        rules = [
            (left, ({"p": "x", "r": "y"}, {"n": ("l", "p", "p")}), []), loops("k", None),
            (({"p": "x", "r": "y"}, {"t": ("l", "p", "p")}), ({"p": "x"}, {}), []),
            (({"p": "x", "r": "y"}, {}), ({"p": "x"}, {}), []),
        ]
        pairs = [("p", "p"), ("t", "t")]
        # Both sides could take r out, but a tie may end there in a larger web.
        self.assert_meeting(rules, 0, 1, pairs, 3, False)
        self.assert_meeting(rules, 1, 0, pairs, 3, False)
        self.assert_meeting(rules + [loops("l", None)], 0, 1, pairs, 1, True)

    def test_a_point_that_both_keep_is_put_to_itself(self):
        loop_first = (ARROW, (ARROW[0], {"n": ("k", "a", "a")}), [])
        loop_second = (ARROW, (ARROW[0], {"n": ("k", "b", "b")}), [])
        pairs = [("a", "a"), ("b", "b"), ("t", "t")]
        self.assert_meeting([loop_first, loop_second], 0, 1, pairs, 3, False)
        self.assert_meeting([loop_first, loop_second, loops("k", None)], 0, 1, pairs, 1, True)

    def test_ties_that_both_keep_may_go(self):
        left = ({"p": "x"}, {"t": ("k", "p", "p"), "u": ("u", "p", "p")})
        rules = [
            (left, ({"p": "x"}, {"n": ("l", "p", "p"), "u": ("u", "p", "p")}), []),
            (left, ({"p": "x"}, {"u": ("u", "p", "p")}), []),
            (({"p": "x"}, {"t": ("l", "p", "p"), "u": ("u", "p", "p")}), ({"p": "x"}, {}), []),
            (({"p": "x"}, {"u": ("u", "p", "p")}), ({"p": "x"}, {}), []),
        ]
        self.assert_meeting(rules, 0, 1, [("p", "p"), ("t", "t"), ("u", "u")], 1, True)

    def test_a_step_that_would_leave_a_tie_loose_is_none(self):
        # y is held by a tie that no rule takes out.
        left = ({"p": "x", "r": "y"}, {"t": ("k", "p", "r"), "u": ("u", "r", "r")})
        rules = [
            (left, ({"p": "x", "q": "y"}, {"n": ("l", "p", "q"), "v": ("u", "q", "q")}), []),
            (left, ({"p": "x"}, {}), []), (({"p": "x", "r": "y"}, {"t": ("l", "p", "r")}), ({"p": "x"}, {}), []),
        ]
        pairs = [("p", "p"), ("r", "r"), ("t", "t"), ("u", "u")]
        self.assert_meeting(rules, 0, 1, pairs, 3, False)
        unhold = (({"r": "y"}, {"u": ("u", "r", "r")}), ({"r": "y"}, {}), [])
        self.assert_meeting(rules + [unhold], 0, 1, pairs, 1, False)
        self.assert_meeting(rules + [unhold], 0, 1, pairs, 2, True)

    def test_names_as_long_as_rules_have_them(self):
        rules = [swap(*kinds, "abcdefgh", "qrstuvwx") for kinds in ("xy", "xz", "yw", "zw")]
        self.assert_meeting(rules, 0, 1, [("abcdefgh", "abcdefgh")], 1, True)

    def test_rules_that_go_on_for_ever(self):
        # Not alike, however long the rows: a point of another kind stays on each side.
        grow = [(EMPTY, ({"p": "w"}, {}), []), (({"p": "w"}, {}), ({"p": "w", "q": "w"}, {"t": ("k", "p", "q")}), [])]
        rules = [swap("x", "y"), swap("x", "z")] + grow
        for most in range(4):
            self.assert_meeting(rules, 0, 1, [("p", "p")], most, False)
        # What was swapped may come again, and then be swapped the other way.
        for most in range(4):
            self.assert_meeting(rules + [ADD], 0, 1, [("p", "p")], most, most >= 2)

    def test_rings_which_look_the_same_from_each_point(self):
        points = {name: "y" for name in "abcd"}
        one_ring, two_rings = [
            (points, {name: ("k", *ends) for name, ends in zip("stuv", rows)})
            for rows in (["ab", "bc", "cd", "da"], ["ab", "ba", "cd", "dc"])
        ]
        x = ({"p": "x"}, {})
        z = ({"p": "z"}, {})
        self.assert_meeting([(x, one_ring, []), (x, two_rings, [])], 0, 1, [("p", "p")], 3, False)
        self.assert_meeting([(x, two_rings, []), (x, two_rings, [])], 0, 1, [("p", "p")], 0, True)
        # One side reaches both, of which the first one is not what the other side has reached.
        for rings in ([one_ring, two_rings], [two_rings, one_ring]):
            for told in rings:
                rules = [swap("x", "z"), (x, told, [])] + [(z, ring, []) for ring in rings]
                self.assert_meeting(rules, 0, 1, [("p", "p")], 1, True)
                self.assert_meeting(rules, 1, 0, [("p", "p")], 1, True)

    def test_very_many_rows_that_cannot_meet(self):
        four = {name: "x" for name in "abcd"}
        grow = ((four, {}), (four, {"s": ("n", "a", "b"), "t": ("n", "b", "c"), "u": ("n", "c", "d")}), [])
        rules = [((four, {"t": ("k", "a", "b")}), (four, {"n": (kind, "a", "b")}), []) for kind in "lm"] + [grow]
        # A tie of another kind stays on each side, and grow has 360 steps from each web, which lead to unlike webs.
        self.assert_meeting(rules, 0, 1, [("a", "a"), ("b", "b"), ("t", "t")], 3, False)
        more = (rules[0][0], (four, {"n": ("l", "a", "b"), "o": ("n", "c", "c")}), [])
        self.assert_meeting([rules[0], more, grow], 0, 1, [("a", "a"), ("b", "b"), ("t", "t")], 3, False)

    def test_as_many_alike_ones_as_there_can_be(self):
        # The order in which points are taken out does not count.
        left = ({name: "x" for name in "abcd"}, {})
        rules = [
            (left, ({"e": "y"}, {}), []), (left, ({"e": "z"}, {}), []), (({"e": "y"}, {}), ({"f": "w"}, {}), []),
            (({"e": "z"}, {}), ({"f": "w"}, {}), []), DROP,
        ]
        self.assert_meeting(rules, 0, 1, [(name, name) for name in "abcd"], 1, True)
        self.assert_meeting(rules, 0, 1, [("a", "a")], 0, False)
        self.assert_meeting(rules, 0, 1, [("a", "a")], 1, True)
        self.assert_meeting(rules[:2] + [DROP], 0, 1, [("a", "a")], 3, False)

    def test_bars_ahead_of_all_else(self):
        bad = (DROP[0], EMPTY, [DROP[0]])
        for rules in ([bad], [DROP, bad], [bad, DROP], [DROP, DROP, bad]):
            for i, j, pairs in [(0, 0, [("p", "p")]), (0, 0, []), (7, 9, [("p", "p")]), (0, 7, [("nowhere", "p")])]:
                for most in range(4):
                    self.assert_has_bars(rules, i, j, pairs, most)
            for pairs in ODD_THINGS:
                self.assert_has_bars(rules, 0, 0, pairs, 1)

    def assert_has_bars(self, rules, i, j, pairs, most):
        with Unchanged(self, rules, pairs):
            with self.assertRaises(GlueError) as told:
                meeting(rules, i, j, pairs, most)
        self.assertIs(HasBars, type(told.exception))

    def test_drawn_rules(self):
        chance = random.Random(103)
        counts = {}
        for round_number in range(600):
            most = round_number % 4
            rules = [some_rule(chance, "xxxy", "kkkl") for k in range(2 if most > 1 else 3)]
            if most == 3 and any(len(rule[0][0]) > 2 or not rule[0][0] for rule in rules):
                continue
            for i, j in [(0, 0), (0, 1), (1, 0), (1, 1)]:
                found = slow_splits(rules[i], rules[j])
                for pairs in chance.sample(found, min(2, len(found))):
                    slow = slow_meets(rules, i, j, pairs, most)
                    counts[most, slow] = counts.get((most, slow), 0) + 1
                    self.assert_meeting(rules, i, j, pairs, most, slow)
        self.assertEqual(8, len(counts), counts)
        self.assertGreater(min(counts.values()), 5)


class LookedThrough(Meets):
    def test_by_hand(self):
        told = looked_through(DIAMOND, 1)
        self.assertEqual([(0, 0), (0, 1), (1, 1), (2, 2), (3, 3)], [row[:2] for row in told[1]])
        self.assert_looked_through(DIAMOND, 1, "meet")
        self.assert_looked_through(DIAMOND, 0, ("open", 0, 1, [("p", "p")]))
        self.assert_looked_through(DIAMOND[:3], 3, ("open", 0, 1, [("p", "p")]))
        self.assert_looked_through(DIAMOND[2:] + DIAMOND[:1] + DIAMOND[:2], 0, ("open", 2, 4, [("p", "p")]))

    def test_most_left_out_is_1(self):
        self.assertEqual("meet", looked_through(DIAMOND)[0])
        self.assertEqual(looked_through(DIAMOND, 1), looked_through(DIAMOND))
        two = [swap("x", "ya"), swap("x", "z"), swap("ya", "yb"), swap("yb", "z")]
        self.assertEqual(("open", 0, 1, [("p", "p")]), looked_through(two))
        self.assertEqual(("open", 0, 1, [("p", "p")]), looked_through(two, 1))
        self.assertEqual("meet", looked_through(two, 2)[0])

    def test_as_many_steps_as_are_needed(self):
        for most in range(4):
            told = "meet" if most == 3 else ("open", 0, 1, [("p", "p")])
            self.assert_looked_through(LONG_DIAMOND, most, told)

    def test_no_rules_and_rules_without_splits(self):
        for most in range(4):
            self.assertEqual(("meet", []), looked_through([], most))
            self.assertEqual(("meet", []), looked_through([ADD, (EMPTY, EMPTY, []), (ARROW, ARROW, [])], most))
        self.assertEqual(("meet", []), looked_through([]))

    def test_one_rule(self):
        self.assert_looked_through([DROP], 0, "meet")
        self.assert_looked_through([SHORTEN], 0, "meet")
        fork = ({"a": "x", "b": "x"}, {"s": ("k", "a", "b"), "t": ("k", "a", "b")})
        self.assert_looked_through([(fork, (fork[0], {"s": ("k", "a", "b")}), [])], 0, "meet")
        loop = (ARROW, (ARROW[0], {"n": ("k", "a", "a")}), [])
        self.assert_looked_through([loop], 1, "meet")
        both = (({"a": "x", "b": "x"}, {}), ({"a": "x"}, {}), [])
        self.assert_looked_through([both], 0, "meet")

    def test_the_same_rule_twice(self):
        self.assert_looked_through([SHORTEN, SHORTEN], 0, "meet")
        told = looked_through([DROP, DROP], 0)[1]
        self.assertEqual([(0, 0), (0, 1), (1, 1)], [row[:2] for row in told])
        self.assert_looked_through([DIAMOND[0], DIAMOND[0], DIAMOND[1]], 1, ("open", 0, 2, [("p", "p")]))

    def test_the_first_split_without_a_meeting(self):
        two = [(({"p": "x", "q": "x"}, {}), ({"n": kind}, {}), []) for kind in "yz"]
        self.assert_looked_through(two, 0, ("open", 0, 1, [("p", "p")]))
        self.assert_looked_through([swap("w", "x")] + two, 0, ("open", 1, 2, [("p", "p")]))

    def test_bars(self):
        bad = (DROP[0], EMPTY, [DROP[0]])
        for rules in ([bad], [DROP, bad], [bad, DROP], DIAMOND[:2] + [bad], [bad, bad]):
            for handed in [(rules,), (rules, 0), (rules, 3)]:
                with Unchanged(self, rules):
                    with self.assertRaises(GlueError) as told:
                        looked_through(*handed)
                self.assertIs(HasBars, type(told.exception))

    def test_drawn_rules(self):
        chance = random.Random(113)
        counts = {}
        for round_number in range(600):
            most = round_number % 4
            rules = [some_rule(chance, "xxxy", "kkkl") for k in range(chance.randrange(1, 3 if most > 1 else 4))]
            if most > 1 and any(len(rule[0][0]) > 2 or not rule[0][0] for rule in rules):
                continue
            told = slow_looked_through(rules, most)
            counts[most, told == "meet"] = counts.get((most, told == "meet"), 0) + 1
            self.assert_looked_through(rules, most, told)
        self.assertEqual(8, len(counts), counts)
        self.assertGreater(min(counts.values()), 2, counts)


def slow_looked_through(rules, most):
    """Point 24 by slow answers: "meet", or the first split without a meeting."""
    for i in range(len(rules)):
        for j in range(i, len(rules)):
            for pairs in slow_splits(rules[i], rules[j]):
                if not slow_meets(rules, i, j, pairs, most):
                    return ("open", i, j, pairs)
    return "meet"


if __name__ == "__main__":
    unittest.main()
