"""Point 2: nothing handed in is changed, and what is told is the asker's own."""

import unittest

from gluework.apart import changed_places, clash
from gluework.books import Book
from gluework.desk import Desk
from gluework.ends import choices, ended
from gluework.errors import (
    Barred, HasBars, Loose, NoDeed, NoFall, NoMatch, NoNames, NoOverlap, NoRow, NoRule, NoText, NoWeb, Open,
)
from gluework.matches import is_match, likeness, line, matches
from gluework.meetings import looked_through, meeting
from gluework.overlaps import lies, overlap_of, overlap_web, overlaps
from gluework.rows import back_row, gone_through
from gluework.rules import fresh_of, is_rule, kept, taken, turned
from gluework.splits import split_steps, splits
from gluework.steps import back, barred, behind, done
from gluework.texts import match_shown, rule_read, rule_shown, web_read, web_shown
from gluework.weights import falls, weighed
from gluework.webs import (
    checked, glued, hold, is_kind, is_name, is_part, is_web, renamed, things, without,
)
from gluework.workshop import Workshop
from samples import RICH, Unchanged, turned_about

PIECE = ({"q": "x", "p": "x"}, {"s": ("k", "p", "q"), "r": ("k", "p", "q")})
MORE = ({"e": "x", "d": "x"}, {"n": ("k", "d", "a"), "m": ("k", "e", "d")})
NAMES = {"w": "i", "v": "h", "u": "g", "t2": "f", "t1": "e", "c.1": "o", "b": "n", "a": "m"}
LEFT = ({"b": "x", "a": "x"}, {"t": ("k", "a", "b"), "s": ("k", "a", "a")})
RIGHT = ({"c": "x", "a": "x"}, {"u": ("k", "a", "c"), "s": ("k", "a", "a")})
RULE = (LEFT, RIGHT, [({"o": "x", **LEFT[0]}, dict(LEFT[1]))])

# RULE is barred there; STEP and OTHER_STEP are apart, THIRD_STEP can be done behind STEP alone.
WEB = (
    {"r": "x", "q": "x", "p": "x"},
    {"t": ("k", "p", "q"), "s": ("k", "p", "p"), "v": ("k", "r", "p"), "l": ("k", "r", "r")},
)
BAR = ({"o": "w", **LEFT[0]}, {"z": ("w", "o", "a"), **LEFT[1]})
FREE = (LEFT, RIGHT, [BAR, BAR])
MATCH = {"t": "t", "s": "s", "b": "q", "a": "p"}
STEP = (FREE, MATCH, {"u": "n.u", "c": "n.c"})
ALL_KEPT = ((PIECE[0], {}), (PIECE[0], {"s": ("k", "p", "q"), "r": ("l", "p", "q")}), [])
OTHER_STEP = (ALL_KEPT, {"q": "r", "p": "p"}, {"s": "m.s", "r": "m.r"})
THIRD_STEP = (ALL_KEPT, {"q": "r", "p": "n.c"}, {"s": "o.s", "r": "o.r"})
STILL = (LEFT, LEFT, [BAR])
STILL_STEP = (STILL, MATCH, {})
ROW = [STEP, OTHER_STEP, THIRD_STEP]
PAIRS = [("p", "a"), ("q", "b"), ("s", "t")]
PIECE_MATCH = {"s": "t1", "r": "t2", "q": "b", "p": "a"}
POINTS = ({"n": "x", "m": "x"}, {})

# The rules of a book: a tie becomes one of two kinds, with a new point beside it, and each of both a third one.
ENDS = {"b": "x", "a": "x"}
BOOK_RULES = [
    ((ENDS, {"t": ("k", "a", "b")}), ({"c": "y", **ENDS}, {"v": ("z", "c", "a"), "u": (kind, "a", "b")}), [])
    for kind in "mn"
] + [((ENDS, {"t": (kind, "a", "b")}), (ENDS, {"v": ("o", "b", "b"), "u": ("o", "b", "a")}), []) for kind in "mn"]
BOOK_PAIRS = [("a", "a"), ("b", "b"), ("t", "t")]
BOOK_WEB = ({"r": "x", "q": "x", "p": "x"}, {"t": ("k", "p", "q"), "s": ("k", "q", "q"), "l": ("l", "r", "q")})
BOOK_STEPS = [
    (BOOK_RULES[0], {"t": "t", "b": "q", "a": "p"}, {"v": "n.v", "u": "n.u", "c": "n.c"}),
    (BOOK_RULES[1], {"t": "t", "b": "q", "a": "p"}, {"v": "o.v", "u": "o.u", "c": "o.c"}),
]
GROW = (POINTS, (POINTS[0], {"t": ("k", "n", "m")}), [])
GROW_STEPS = [(GROW, {"n": "p", "m": "q"}, {"t": name}) for name in ("n.t", "o.t")]


# Rules that fall by the weights: a tie becomes a lighter one, or goes with one of its points.
CUT = (({"b": "x", "a": "x"}, {"t": ("k", "a", "b")}), ({"b": "x", "a": "x"}, {"u": ("n", "b", "a")}), [
    ({"b": "x", "a": "x"}, {"t": ("k", "a", "b"), "o": ("w", "a", "b")}),
])
FALLING = [CUT, (({"b": "x", "a": "x"}, {"t": ("k", "a", "b")}), ({"a": "x"}, {}), [])]
WEIGHTS = {"x": 3, "n": 1, "k": 2}


def ended_by_last(web, rules, weights):
    return ended(web, rules, weights, lambda number, told: -1, "mark")


def shop_told(web, rules, deeds):
    """All that a workshop tells, where some deeds are done, undone and done again."""
    shop = Workshop(web, rules)
    told = [shop.web(), shop.row(), shop.choices()]
    for number, match in deeds:
        told.append(shop.deed(number, match))
    told.extend([shop.undo(), shop.row(), shop.choices(), shop.redo(), shop.row(), shop.choices(), shop.web()])
    return told


def shop_refused(web, rules, asked, handed):
    """What a workshop refuses behind a deed."""
    shop = Workshop(web, rules)
    shop.deed(0, {"t": "t", "b": "q", "a": "p"})
    getattr(shop, asked)(*handed)


def said(rows):
    desk = Desk()
    return [desk.say(row) for row in rows]


def book_meetings(rules, most):
    return Book(rules, most).meetings()


def book_met(rules, web, one, other):
    return Book(rules).meet(web, one, other)


def other_order(thing):
    """The same thing, each dict's things put in the other way round, at whatever depth."""
    if isinstance(thing, dict):
        return {name: other_order(held) for name, held in reversed(list(thing.items()))}
    if isinstance(thing, (list, tuple)):
        return type(thing)(other_order(held) for held in thing)
    return thing


def spoil(thing):
    """Changes each list and each dict in thing, at whatever depth."""
    if isinstance(thing, (list, tuple)):
        for held in thing:
            spoil(held)
    if isinstance(thing, dict):
        for held in thing.values():
            spoil(held)
        thing.clear()
        thing["spoiled"] = "spoiled"
    if isinstance(thing, list):
        thing.append("spoiled")


def held_in(thing):
    """Each list and each dict in thing, at whatever depth."""
    own = [thing] if isinstance(thing, (list, dict)) else []
    if isinstance(thing, dict):
        return own + [one for held in thing.values() for one in held_in(held)]
    if isinstance(thing, (list, tuple)):
        return own + [one for held in thing for one in held_in(held)]
    return own


CALLS = [
    (is_name, ("a",)), (is_kind, ("a",)), (is_web, (RICH,)), (checked, (RICH,)), (things, (RICH,)), (hold, (RICH, "a")),
    (is_part, (RICH, RICH)), (is_part, (PIECE, RICH)), (without, (RICH, ["t2", "u", "t2"])), (without, (RICH, [])),
    (glued, (RICH, MORE)), (glued, (RICH, ({}, {}))), (renamed, (RICH, NAMES)),
    (is_match, (PIECE, RICH, {"s": "t1", "r": "t2", "q": "b", "p": "a"})), (is_match, (PIECE, RICH, {"p": "a"})),
    (line, (PIECE, {"s": "t1", "r": "t2", "q": "b", "p": "a"})), (matches, (PIECE, RICH)),
    (matches, (PIECE, RICH, {"s": "t1", "p": "a"})), (matches, (PIECE, RICH, {})), (matches, (({}, {}), RICH)),
    (likeness, (RICH, RICH)), (likeness, (RICH, RICH, {"t2": "t1", "b": "b"})), (likeness, (PIECE, RICH)),
    (is_rule, (RULE,)), (kept, (RULE,)), (taken, (RULE,)), (fresh_of, (RULE,)), (turned, (RULE,)),
    (turned, ((LEFT, RIGHT, []),)),
    (barred, (WEB, RULE, MATCH)), (barred, (WEB, FREE, MATCH)), (barred, (WEB, (LEFT, RIGHT, [BAR, LEFT]), MATCH)),
    (done, (WEB, STEP)), (done, (WEB, OTHER_STEP)), (done, (WEB, STILL_STEP)), (behind, (STEP,)),
    (behind, (STILL_STEP,)), (back, (STEP,)), (back, (STILL_STEP,)), (gone_through, (WEB, [])),
    (gone_through, (WEB, ROW)), (gone_through, (WEB, [STILL_STEP, STILL_STEP])), (back_row, ([],)), (back_row, (ROW,)),
    (back_row, ([STILL_STEP, STILL_STEP],)), (clash, (WEB, STEP, OTHER_STEP)), (clash, (WEB, STEP, STEP)),
    (clash, (WEB, STILL_STEP, STEP)), (changed_places, (WEB, ROW, 0)), (changed_places, (WEB, ROW, 1)),
    (changed_places, (WEB, [OTHER_STEP, STEP, THIRD_STEP], 1)), (changed_places, (WEB, [STILL_STEP, STILL_STEP], 0)),
    (changed_places, (WEB, [STILL_STEP, STILL_STEP, STEP], 0)), (overlaps, (PIECE, LEFT)), (overlaps, (PIECE, PIECE)),
    (overlaps, (({}, {}), RICH)), (overlap_web, (PIECE, LEFT, PAIRS)), (overlap_web, (PIECE, LEFT, [])),
    (overlap_web, (({}, {}), ({}, {}), [])), (overlap_of, (PIECE_MATCH, {"m": "a", "n": "b"})),
    (overlap_of, (PIECE_MATCH, PIECE_MATCH)), (overlap_of, ({}, {})),
    (lies, (PIECE, POINTS, [("p", "m"), ("q", "n")], PIECE_MATCH, {"n": "b", "m": "a"})),
    (lies, (PIECE, POINTS, [("q", "n")], PIECE_MATCH, {"n": "b", "m": "d"})),
    (splits, (BOOK_RULES[0], BOOK_RULES[1])), (splits, (ALL_KEPT, ALL_KEPT)),
    (split_steps, (BOOK_RULES[0], BOOK_RULES[1], BOOK_PAIRS)), (split_steps, (ALL_KEPT, ALL_KEPT, [])),
    (meeting, (BOOK_RULES, 0, 1, BOOK_PAIRS, 1)), (meeting, (BOOK_RULES, 0, 1, BOOK_PAIRS, 0)),
    (meeting, (BOOK_RULES, 0, 0, BOOK_PAIRS, 3)), (looked_through, (BOOK_RULES,)), (looked_through, (BOOK_RULES, 0)),
    (looked_through, ([],)), (book_meetings, (BOOK_RULES, 1)), (book_meetings, ([ALL_KEPT], 0)),
    (book_met, (BOOK_RULES, BOOK_WEB, BOOK_STEPS[0], BOOK_STEPS[1])),
    (book_met, (BOOK_RULES, BOOK_WEB, BOOK_STEPS[1], BOOK_STEPS[0])),
    (book_met, ([GROW], BOOK_WEB, GROW_STEPS[0], GROW_STEPS[1])),
    (weighed, (RICH, {"y": 3, "x": 2, "k": 1})), (falls, (RULE, {"y": 3, "x": 2, "k": 1})),
    (choices, (BOOK_WEB, FALLING)), (choices, (WEB, [STILL, FREE, ALL_KEPT, CUT])), (choices, (RICH, [])),
    (ended_by_last, (BOOK_WEB, FALLING, WEIGHTS)), (ended_by_last, (WEB, FALLING, WEIGHTS)),
    (ended_by_last, (RICH, [], {})), (ended_by_last, (POINTS, [(({"p": "x"}, {}), ({"q": "y"}, {}), [])], {"x": 1})),
    (shop_told, (BOOK_WEB, FALLING + BOOK_RULES, [(0, {"t": "t", "b": "q", "a": "p"})])),
    (shop_told, (WEB, [STILL, FREE, ALL_KEPT], [(0, MATCH), (0, MATCH), (1, MATCH), (2, {"q": "r", "p": "n2.c"})])),
    (web_shown, (RICH,)), (web_shown, (({}, {}),)), (rule_shown, (RULE,)), (rule_shown, (FREE,)),
    (match_shown, (PIECE, PIECE_MATCH)), (match_shown, (({}, {}), {})), (web_read, ("t:k(b,a) b:x a:x",)),
    (web_read, ("-",)), (rule_read, ("t:k(b,a) b:x a:x > b:x ! a:x t:k(b,a) c:y b:x",)),
    (rule_read, ("- > - ! - ! -",)),
    (said, (["rule r p:x > -", "web b:x a:x", "matches r", "do r 0", "undo", "weigh x 1", "end r"],)),
]

REFUSED = [
    (NoWeb, checked, (({"b": "x", "a": "X"}, {}),)), (Loose, without, (RICH, ["v", "a"])),
    (NoNames, glued, (RICH, ({"d": "x", "a": "x"}, {}))),
    (NoMatch, done, (WEB, (FREE, {**MATCH, "t": "v"}, STEP[2]))), (NoNames, done, (WEB, (FREE, MATCH, {"c": "p"}))),
    (Loose, done, ((WEB[0], {**WEB[1], "m": ("k", "q", "r")}), STEP)), (Barred, done, (WEB, (RULE, MATCH, STEP[2]))),
    (NoMatch, gone_through, (WEB, [STEP, STEP])), (NoMatch, changed_places, (WEB, [OTHER_STEP, STEP, STEP], 0)),
    (Barred, clash, (WEB, STEP, (RULE, MATCH, STEP[2]))), 
    (NoOverlap, overlap_web, (PIECE, LEFT, PAIRS[1:] + PAIRS[:1])), (HasBars, splits, (ALL_KEPT, FREE)),
    (HasBars, split_steps, (FREE, ALL_KEPT, [])), (NoOverlap, split_steps, (ALL_KEPT, ALL_KEPT, [("s", "s")])),
    (HasBars, meeting, (BOOK_RULES + [FREE], 0, 1, BOOK_PAIRS, 1)), (HasBars, looked_through, ([FREE],)),
    (HasBars, book_meetings, ([FREE], 1)), (Open, book_meetings, (BOOK_RULES, 0)),
    (NoRule, book_met, (BOOK_RULES, BOOK_WEB, BOOK_STEPS[0], GROW_STEPS[0])),
    (NoNames, book_met, (BOOK_RULES, BOOK_WEB, BOOK_STEPS[0], BOOK_STEPS[0])),
    (NoNames, ended_by_last, (({"mark": "x"}, {}), FALLING, WEIGHTS)), (NoFall, ended_by_last, (WEB, [STILL], WEIGHTS)),
    (NoRule, shop_refused, (BOOK_WEB, FALLING, "deed", [2, {"t": "s", "b": "q", "a": "q"}])),
    (NoNames, shop_refused, (BOOK_WEB, FALLING, "deed", [0, {"t": "s", "b": "q", "a": "q"}, ["n"]])),
    (NoMatch, shop_refused, (BOOK_WEB, FALLING, "deed", [0, {"t": "s", "b": "q", "a": "q"}])),
    (NoDeed, shop_refused, (BOOK_WEB, FALLING, "redo", [])), (NoText, web_read, (["a:x"],)),
    (NoText, rule_read, ({"a": "x"},)), (NoRow, said, ([["show"]],)),
]


class Own(unittest.TestCase):
    def test_what_is_handed_in_is_the_same_behind_each_call(self):
        for asked, handed in CALLS:
            with self.subTest(asked.__name__):
                with Unchanged(self, handed):
                    asked(*handed)

    def test_what_is_handed_in_is_the_same_behind_a_refusal(self):
        for refusal, asked, handed in REFUSED:
            with self.subTest(asked.__name__):
                with Unchanged(self, handed):
                    self.assertRaises(refusal, asked, *handed)

    def test_what_is_told_is_new(self):
        for asked, handed in CALLS:
            with self.subTest(asked.__name__):
                told = held_in(asked(*handed))
                others = held_in(handed) + held_in(asked(*handed))
                for one in told:
                    self.assertEqual(1, len([other for other in told if other is one]))
                    self.assertFalse([other for other in others if other is one])

    def test_what_was_told_and_then_changed_changes_nothing(self):
        for asked, handed in CALLS:
            with self.subTest(asked.__name__):
                with Unchanged(self, handed):
                    shown = repr(asked(*handed))
                    spoil(asked(*handed))
                    self.assertEqual(shown, repr(asked(*handed)))

    def test_what_was_handed_in_and_then_changed_changes_nothing_told(self):
        for asked, handed in CALLS:
            with self.subTest(asked.__name__):
                own = other_order(handed)
                told = asked(*own)
                shown = repr(told)
                spoil(own)
                self.assertEqual(shown, repr(told))

    def test_nothing_hangs_on_the_order_in_a_dict(self):
        for asked, handed in CALLS:
            with self.subTest(asked.__name__):
                self.assertEqual(repr(asked(*handed)), repr(asked(*other_order(handed))))

    def test_the_samples_themselves(self):
        self.assertEqual(RICH, turned_about(RICH))
        self.assertNotEqual(repr(RICH), repr(turned_about(RICH)))
        for rule in [RULE, FREE, ALL_KEPT, STILL, GROW] + BOOK_RULES + FALLING:
            self.assertTrue(is_rule(rule))
        self.assertIn(BOOK_PAIRS, splits(BOOK_RULES[0], BOOK_RULES[1]))
        self.assertTrue(all(book_met(BOOK_RULES, BOOK_WEB, *BOOK_STEPS)))
        self.assertIsNotNone(barred(WEB, RULE, MATCH))
        self.assertIsNotNone(changed_places(WEB, ROW, 0))
        self.assertIsNone(changed_places(WEB, [OTHER_STEP, STEP, THIRD_STEP], 1))
        self.assertGreater(len(ended_by_last(WEB, FALLING, WEIGHTS)[0]), 1)
        self.assertGreater(len(shop_told(BOOK_WEB, FALLING, [(0, {"t": "t", "b": "q", "a": "p"})])[-3]), 0)


if __name__ == "__main__":
    unittest.main()
