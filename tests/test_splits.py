"""Point 22: splits of two rules, and their steps."""

import random
import unittest

from gluework.apart import clash
from gluework.errors import GlueError, HasBars, NoOverlap
from gluework.overlaps import overlap_web, overlaps
from gluework.rules import is_rule
from gluework.splits import split_steps, splits
from gluework.steps import done
from gluework.webs import is_web
from samples import EMPTY, ODD_THINGS, Unchanged, slow_split_steps, slow_splits, some_rule, turned_about

X = ({"a": "x"}, {})
Y = ({"b": "y"}, {})
ARROW = ({"a": "x", "b": "x"}, {"t": ("k", "a", "b")})
DROP = (X, EMPTY, [])
SWAP = (X, Y, [])
KEEP = (X, X, [])
ADD = (EMPTY, X, [])
NOTHING = (EMPTY, EMPTY, [])
CUT = (ARROW, (ARROW[0], {}), [])
DROP_ALL = (ARROW, EMPTY, [])
DROP_END = (ARROW, X, [])
# Takes out the point between two ties, and these, for one tie.
CHAIN = ({"a": "x", "b": "x", "c": "x"}, {"s": ("k", "a", "b"), "t": ("k", "b", "c")})
SHORTEN = (CHAIN, ({"a": "x", "c": "x"}, {"n": ("k", "a", "c")}), [])
RULES = [DROP, SWAP, KEEP, ADD, NOTHING, CUT, DROP_ALL, DROP_END, SHORTEN]
LONG = (({"abcdefgh": "x"}, {"ijklmnop": ("k", "abcdefgh", "abcdefgh")}), ({"qrstuvwx": "abcdefgh"}, {}), [])


def doable(web, step):
    try:
        done(web, step)
    except GlueError:
        return False
    return True


def sought(rule, other):
    """All overlaps of both lefts, each looked at by done and clash."""
    told = []
    for pairs in overlaps(rule[0], other[0]):
        web, match, other_match = overlap_web(rule[0], other[0], pairs)
        one, two = slow_split_steps(rule, other, pairs)[1:]
        if doable(web, one) and doable(web, two) and clash(web, one, two) is not None:
            told.append(pairs)
    return told


class Splits(unittest.TestCase):
    def assert_splits(self, told, rule, other):
        for one in (rule, other):
            self.assertTrue(is_rule(one))
        with Unchanged(self, rule, other):
            self.assertEqual(told, splits(rule, other))
        self.assertEqual(told, splits(turned_rule(rule), turned_rule(other)))

    def test_by_hand(self):
        for rule, other, told in [
            (DROP, DROP, [[("a", "a")]]), (DROP, SWAP, [[("a", "a")]]), (SWAP, SWAP, [[("a", "a")]]),
            (DROP, KEEP, [[("a", "a")]]), (KEEP, DROP, [[("a", "a")]]),
            (CUT, CUT, [[("a", "a"), ("b", "b"), ("t", "t")]]),
            # Where but a point is paired that goes, the other rule's tie would be loose.
            (DROP, CUT, []), (CUT, DROP, []), (DROP_ALL, DROP, []),
            (DROP_ALL, CUT, [[("a", "a"), ("b", "b"), ("t", "t")]]),
            (DROP_ALL, KEEP, [[("a", "a")], [("b", "a")]]), (KEEP, DROP_ALL, [[("a", "a")], [("a", "b")]]),
            (DROP_END, KEEP, [[("b", "a")]]), (DROP_END, DROP_END, [[("a", "a"), ("b", "b"), ("t", "t")]]),
        ]:
            with self.subTest((rule, other)):
                self.assert_splits(told, rule, other)

    def test_a_chain_shortened_at_either_place(self):
        told = splits(SHORTEN, SHORTEN)
        self.assertIn([("b", "a"), ("c", "b"), ("t", "s")], told)
        self.assertIn([("a", "b"), ("b", "c"), ("s", "t")], told)
        self.assertEqual(slow_splits(SHORTEN, SHORTEN), told)

    def test_rules_that_take_out_nothing_and_empty_sides(self):
        grow = (ARROW, (ARROW[0], {**ARROW[1], "u": ("k", "a", "a")}), [])
        for rule in (KEEP, ADD, NOTHING, (ARROW, ARROW, []), grow):
            for other in (KEEP, ADD, NOTHING):
                self.assert_splits([], rule, other)
                self.assert_splits([], other, rule)
        for rule in RULES:
            self.assert_splits([], rule, ADD)
            self.assert_splits([], NOTHING, rule)

    def test_each_rule_with_each(self):
        for rule in RULES:
            for other in RULES:
                with self.subTest((rule, other)):
                    self.assert_splits(slow_splits(rule, other), rule, other)
                    self.assertEqual(sought(rule, other), splits(rule, other))

    def test_drawn_rules(self):
        chance = random.Random(79)
        count = 0
        none = 0
        for round_number in range(250):
            rule = some_rule(chance, "xxxy", "kkkl")
            other = rule if round_number % 4 == 0 else some_rule(chance, "xxxy", "kkkl")
            slow = slow_splits(rule, other)
            count += len(slow) > 2
            none += 0 < len(slow) < len(overlaps(rule[0], other[0])) - 1
            self.assert_splits(slow, rule, other)
            self.assertEqual(slow, sought(rule, other))
        self.assertGreater(count, 30)
        self.assertGreater(none, 50)

    def test_changed_about_they_are_the_splits_of_both_changed_about(self):
        chance = random.Random(83)
        for round_number in range(60):
            rule = some_rule(chance)
            other = some_rule(chance)
            turned = sorted(sorted((two, one) for one, two in pairs) for pairs in splits(rule, other))
            self.assertEqual(turned, splits(other, rule))

    def test_as_large_as_rules_are(self):
        left = ({name: "x" for name in "abcd"}, {name: ("k", "a", "a") for name in "stuv"})
        cut = (left, (left[0], {}), [])
        # All overlaps in which a tie is paired: 34 ways for the other points, 208 for the ties.
        told = splits(cut, cut)
        self.assertEqual(34 * 208, len(told))
        self.assertEqual([pairs for pairs in overlaps(left, left) if any(one in "stuv" for one, two in pairs)], told)


def turned_rule(rule):
    return (turned_about(rule[0]), turned_about(rule[1]), rule[2])


class SplitSteps(unittest.TestCase):
    def test_by_hand(self):
        pairs = [("b", "a"), ("c", "b"), ("t", "s")]
        with Unchanged(self, SHORTEN, pairs):
            told = split_steps(SHORTEN, SHORTEN, pairs)
        self.assertEqual(
            (
                (
                    {"a.a": "x", "a.b": "x", "a.c": "x", "b.c": "x"},
                    {"a.s": ("k", "a.a", "a.b"), "a.t": ("k", "a.b", "a.c"), "b.t": ("k", "a.c", "b.c")},
                ),
                (SHORTEN, {"a": "a.a", "b": "a.b", "c": "a.c", "s": "a.s", "t": "a.t"}, {"n": "c.n"}),
                (SHORTEN, {"a": "a.b", "b": "a.c", "c": "b.c", "s": "a.t", "t": "b.t"}, {"n": "d.n"}),
            ),
            told,
        )
        self.assertIsInstance(told, tuple)

    def test_of_each_overlap_a_split_or_not(self):
        chance = random.Random(89)
        loose = 0
        for round_number in range(150):
            rule = some_rule(chance)
            other = rule if round_number % 4 == 0 else some_rule(chance)
            for pairs in overlaps(rule[0], other[0]):
                with Unchanged(self, rule, other, pairs):
                    told = split_steps(rule, other, pairs)
                self.assertEqual(slow_split_steps(rule, other, pairs), told)
                self.assertEqual(overlap_web(rule[0], other[0], pairs), (told[0], told[1][1], told[2][1]))
                loose += not (doable(told[0], told[1]) and doable(told[0], told[2]))
        self.assertGreater(loose, 50)

    def test_empty_sides(self):
        self.assertEqual((EMPTY, (NOTHING, {}, {}), (NOTHING, {}, {})), split_steps(NOTHING, NOTHING, []))
        self.assertEqual((EMPTY, (ADD, {}, {"a": "c.a"}), (ADD, {}, {"a": "d.a"})), split_steps(ADD, ADD, []))
        self.assertEqual(
            (({"b.a": "x"}, {}), (ADD, {}, {"a": "c.a"}), (DROP, {"a": "b.a"}, {})), split_steps(ADD, DROP, [])
        )

    def test_names_as_long_as_rules_have_them(self):
        web, one, other = split_steps(LONG, LONG, [("abcdefgh", "abcdefgh")])
        self.assertTrue(is_web(web))
        self.assertEqual({"qrstuvwx": "c.qrstuvwx"}, one[2])
        self.assertEqual({"qrstuvwx": "d.qrstuvwx"}, other[2])
        self.assertEqual({"abcdefgh": "a.abcdefgh", "ijklmnop": "b.ijklmnop"}, other[1])


class Refusals(unittest.TestCase):
    def assert_refused(self, refusal, asked, *handed):
        with self.subTest((asked.__name__, repr(handed))):
            with Unchanged(self, handed):
                with self.assertRaises(GlueError) as told:
                    asked(*handed)
            self.assertIs(refusal, type(told.exception))

    def test_bars_of_either_rule(self):
        one_bar = (X, EMPTY, [({"a": "x", "b": "x"}, {})])
        for bad in (one_bar, (X, X, [X]), (X, EMPTY, [X, X, X]), (EMPTY, EMPTY, [EMPTY])):
            self.assertTrue(is_rule(bad))
            for good in (DROP, KEEP, ADD, NOTHING, CUT):
                self.assert_refused(HasBars, splits, bad, good)
                self.assert_refused(HasBars, splits, good, bad)
                self.assert_refused(HasBars, split_steps, bad, good, [])
                self.assert_refused(HasBars, split_steps, good, bad, [])
            self.assert_refused(HasBars, splits, bad, bad)

    def test_bars_ahead_of_no_overlap(self):
        bad = (X, EMPTY, [X])
        for pairs in ODD_THINGS + [[("a", "nowhere")], [("a", "a"), ("a", "a")]]:
            self.assert_refused(HasBars, split_steps, bad, DROP, pairs)
            self.assert_refused(HasBars, split_steps, DROP, bad, pairs)
            self.assert_refused(HasBars, split_steps, bad, bad, pairs)

    def test_no_overlap_of_any_kind(self):
        drop = (({"p": "x"}, {}), EMPTY, [])
        self.assertEqual(3, len(split_steps(drop, drop, [("p", "p")])))
        for thing in ODD_THINGS:
            if thing != []:
                self.assert_refused(NoOverlap, split_steps, drop, drop, thing)
                self.assert_refused(NoOverlap, split_steps, NOTHING, NOTHING, thing)
            self.assert_refused(NoOverlap, split_steps, drop, drop, [thing])
            self.assert_refused(NoOverlap, split_steps, drop, drop, [("p", "p"), thing])
            self.assert_refused(NoOverlap, split_steps, drop, drop, [("p", thing)])
            self.assert_refused(NoOverlap, split_steps, drop, drop, [(thing, "p")])
            self.assert_refused(NoOverlap, split_steps, drop, drop, [(thing, thing)])

    def test_overlaps_of_something_else(self):
        for pairs in [
            [("a", "a"), ("b", "b")], [("t", "t")], [("a", "nowhere")], [("b", "b"), ("a", "a"), ("t", "t")],
            [("a", "a"), ("a", "b")], [("a", "b"), ("b", "b")], [("a", "a"), ("a", "a")], [("a.a", "a.a")],
        ]:
            self.assert_refused(NoOverlap, split_steps, DROP, CUT, pairs)
        # Names of the rights do not count.
        self.assert_refused(NoOverlap, split_steps, ADD, ADD, [("a", "a")])
        self.assert_refused(NoOverlap, split_steps, SWAP, SWAP, [("b", "b")])


if __name__ == "__main__":
    unittest.main()
