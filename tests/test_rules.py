"""Point 11 and, of point 14, the rule turned."""

import unittest

from gluework.rules import fresh_of, is_rule, kept, taken, turned
from gluework.webs import is_web
from samples import EMPTY, ODD_THINGS, Unchanged, turned_about

# Keeps a, c and the loop l; takes out b, s, t; d, e, n, m are new.
LEFT = ({"b": "x", "a": "x", "c": "y"}, {"t": ("k", "a", "b"), "s": ("k", "b", "c"), "l": ("k", "a", "a")})
RIGHT = (
    {"c": "y", "e": "z", "a": "x", "d": "x"},
    {"n": ("k", "d", "a"), "l": ("k", "a", "a"), "m": ("k", "e", "e")},
)
BAR = ({**LEFT[0], "o": "x"}, {**LEFT[1], "p": ("k", "o", "a"), "q": ("l", "a", "a")})
RULE = (LEFT, RIGHT, [BAR])

WORDS = ["aa", "ab", "ac", "ad", "ae", "af", "ag"]


def web_of(points, ties):
    """A web of so many points and ties; a smaller one is part of a larger one that has points at all."""
    return ({WORDS[k]: "x" for k in range(points)}, {f"t{WORDS[k]}": ("k", "aa", "aa") for k in range(ties)})


def rules_with(piece):
    """The piece as left, as right, as a bar, and as all of them."""
    return [(piece, EMPTY, []), (EMPTY, piece, []), (EMPTY, EMPTY, [piece]), (piece, piece, [piece])]


class IsRule(unittest.TestCase):
    def assert_rules(self, *rules):
        for rule in rules:
            with self.subTest(rule):
                self.assertIs(is_rule(rule), True)

    def assert_no_rules(self, *rules):
        for rule in rules:
            with self.subTest(repr(rule)):
                with Unchanged(self, rule):
                    self.assertIs(is_rule(rule), False)

    def test_rules(self):
        self.assert_rules(
            RULE, (LEFT, RIGHT, []), (EMPTY, EMPTY, []), (EMPTY, RIGHT, []), (LEFT, EMPTY, []), (LEFT, LEFT, [LEFT]),
            (EMPTY, RIGHT, [EMPTY, BAR, LEFT]), (turned_about(LEFT), RIGHT, [BAR, turned_about(BAR), BAR]),
        )

    def test_counts_of_points_and_ties(self):
        self.assert_rules(
            (web_of(4, 4), EMPTY, []), (EMPTY, web_of(4, 4), []), (web_of(4, 4), web_of(4, 4), [web_of(6, 6)]),
            (EMPTY, EMPTY, [web_of(6, 6)]),
        )
        self.assert_no_rules(
            (web_of(5, 0), EMPTY, []), (web_of(1, 5), EMPTY, []), (EMPTY, web_of(5, 0), []), (EMPTY, web_of(1, 5), []),
            (web_of(5, 4), web_of(4, 4), []), (web_of(4, 4), web_of(4, 5), []), (EMPTY, EMPTY, [web_of(7, 0)]),
            (EMPTY, EMPTY, [web_of(1, 7)]), (EMPTY, EMPTY, [EMPTY, web_of(6, 7)]),
            (EMPTY, EMPTY, [web_of(7, 6), EMPTY]),
        )

    def test_counts_of_bars(self):
        self.assert_rules((LEFT, RIGHT, [BAR] * 2), (LEFT, RIGHT, [BAR, LEFT, BAR]))
        self.assert_no_rules((LEFT, RIGHT, [BAR] * 4), (EMPTY, EMPTY, [EMPTY] * 4), (LEFT, RIGHT, [LEFT, BAR] * 3))

    def test_names(self):
        for name in ["a", "zz", "abcdefg", "abcdefgh"]:
            point = ({name: "x"}, {})
            tie = ({"p": "x"}, {name: ("k", "p", "p")})
            for piece in (point, tie):
                self.assert_rules(*rules_with(piece))
        for name in ["abcdefghi", "a" * 24, "a1", "a.", "a.b", "b2c", "a" * 25, "", "A", "a b", "1", "a\n", "a_"]:
            point = ({name: "x"}, {})
            tie = ({"p": "x"}, {name: ("k", "p", "p")})
            for piece in (point, tie):
                self.assert_no_rules(*rules_with(piece))

    def test_kept_things_are_the_same_in_both(self):
        points = {"a": "x", "b": "x"}
        left = (points, {"t": ("k", "a", "b")})
        self.assert_rules(
            (left, left, []), (left, (points, {}), []), (left, (points, {"u": ("l", "b", "a")}), []),
            (left, ({"a": "x"}, {}), []),
            (left, ({"b": "x", "c": "y"}, {"u": ("k", "c", "b")}), []),
        )
        self.assert_no_rules(
            (left, ({"a": "y"}, {}), []), (left, ({"a": "x", "b": "y"}, {}), []),
            (left, (points, {"t": ("l", "a", "b")}), []),
            (left, (points, {"t": ("k", "b", "a")}), []), (left, (points, {"t": ("k", "a", "a")}), []),
            (left, (points, {"t": ("k", "b", "b")}), []), (left, ({"a": "x", "c": "x"}, {"t": ("k", "a", "c")}), []),
            (left, ({"c": "x", "b": "x"}, {"t": ("k", "c", "b")}), []),
        )

    def test_a_point_in_one_and_a_tie_in_the_other(self):
        left = ({"a": "x", "b": "x"}, {"t": ("k", "a", "b")})
        self.assert_no_rules(
            (left, ({"t": "x"}, {}), []), (left, ({"t": "k"}, {}), []),
            (left, ({"a": "x"}, {"b": ("k", "a", "a")}), []),
            (({"t": "k"}, {}), left, []), (left, ({"c": "x"}, {"a": ("k", "c", "c")}), []),
        )

    def test_bars_have_left_as_part(self):
        points, ties = LEFT
        for bar in [
            EMPTY, RIGHT, (points, {}), ({"a": "x"}, {}), (points, {"t": ties["t"], "s": ties["s"]}),
            (points, {**ties, "t": ("l", "a", "b")}), (points, {**ties, "t": ("k", "b", "a")}),
            ({**points, "b": "y"}, ties),
            ({**points, "b": "y", "o": "x"}, ties),
        ]:
            self.assertIs(is_web(bar), True)
            self.assert_no_rules((LEFT, RIGHT, [bar]), (LEFT, RIGHT, [BAR, bar]), (LEFT, RIGHT, [bar, BAR, BAR]))

    def test_a_bar_may_use_names_of_right(self):
        self.assert_rules((LEFT, RIGHT, [({**LEFT[0], "n": "w"}, {**LEFT[1], "d": ("w", "n", "n")})]))

    def test_lists_for_tuples_and_tuples_for_lists(self):
        self.assert_no_rules(
            list(RULE), (LEFT, RIGHT, (BAR,)), (LEFT, RIGHT, ()), (list(LEFT), RIGHT, [BAR]),
            (LEFT, list(RIGHT), [BAR]),
            (LEFT, RIGHT, [list(BAR)]), (LEFT, RIGHT, {}), (LEFT, RIGHT, None), (LEFT, RIGHT, BAR),
            (LEFT, RIGHT, {"a": BAR}),
            (({"p": "x"}, {"t": ["k", "p", "p"]}), EMPTY, []),
        )

    def test_other_counts(self):
        self.assert_no_rules((), (LEFT,), (LEFT, RIGHT), (LEFT, RIGHT, [], []), LEFT, [BAR])

    def test_what_is_no_web(self):
        for thing in ODD_THINGS:
            self.assert_no_rules((thing, RIGHT, []), (LEFT, thing, []), (LEFT, RIGHT, [thing]))
            self.assert_no_rules((LEFT, RIGHT, [BAR, thing]))

    def test_what_is_of_any_other_kind(self):
        for thing in ODD_THINGS:
            self.assert_no_rules(thing)
            if thing != []:
                self.assert_no_rules((LEFT, RIGHT, thing))


class Names(unittest.TestCase):
    def test_kept_taken_and_new_in_order(self):
        for rule in (RULE, (turned_about(LEFT), turned_about(RIGHT), [])):
            self.assertEqual(["a", "c", "l"], kept(rule))
            self.assertEqual(["b", "s", "t"], taken(rule))
            self.assertEqual(["d", "e", "m", "n"], fresh_of(rule))

    def test_points_stand_ahead_of_ties(self):
        left = ({"y": "x", "z": "x"}, {"b": ("k", "y", "y"), "c": ("k", "y", "z")})
        right = ({"y": "x", "w": "x"}, {"b": ("k", "y", "y"), "a": ("k", "w", "y")})
        self.assertEqual(["y", "b"], kept((left, right, [])))
        self.assertEqual(["z", "c"], taken((left, right, [])))
        self.assertEqual(["w", "a"], fresh_of((left, right, [])))

    def test_all_kept_or_nothing(self):
        names = ["a", "b", "c", "l", "s", "t"]
        for rule, told in [
            ((LEFT, LEFT, [BAR]), (names, [], [])), ((LEFT, EMPTY, []), ([], names, [])),
            ((EMPTY, LEFT, []), ([], [], names)),
            ((EMPTY, EMPTY, []), ([], [], [])),
        ]:
            self.assertEqual(told, (kept(rule), taken(rule), fresh_of(rule)))


class Turned(unittest.TestCase):
    def test_turned(self):
        self.assertEqual((RIGHT, LEFT, []), turned(RULE))
        self.assertEqual((EMPTY, RIGHT, []), turned((RIGHT, EMPTY, [])))
        self.assertIs(is_rule(turned(RULE)), True)

    def test_turned_again_it_is_the_rule_without_its_bars(self):
        self.assertEqual((LEFT, RIGHT, []), turned(turned(RULE)))
        self.assertEqual((LEFT, RIGHT, []), turned(turned((LEFT, RIGHT, []))))

    def test_what_is_kept_taken_and_new_is_turned(self):
        self.assertEqual(kept(RULE), kept(turned(RULE)))
        self.assertEqual(taken(RULE), fresh_of(turned(RULE)))
        self.assertEqual(fresh_of(RULE), taken(turned(RULE)))

    def test_it_is_of_new_dicts(self):
        told = turned(RULE)
        for web, own in ((told[0], RIGHT), (told[1], LEFT)):
            for named, other in zip(web, own):
                self.assertEqual(other, named)
                self.assertIsNot(other, named)
        self.assertIsNot(told[2], RULE[2])
        bare = (LEFT, RIGHT, [])
        self.assertIsNot(turned(bare)[2], bare[2])


if __name__ == "__main__":
    unittest.main()
