"""Point 2: nothing handed in is changed, and what is told is the asker's own."""

import unittest

from gluework.errors import Loose, NoNames, NoWeb
from gluework.matches import is_match, likeness, line, matches
from gluework.rules import fresh_of, is_rule, kept, taken, turned
from gluework.webs import (
    checked, glued, hold, is_kind, is_name, is_part, is_web, renamed, things, without,
)
from samples import RICH, Unchanged, turned_about

PIECE = ({"q": "x", "p": "x"}, {"s": ("k", "p", "q"), "r": ("k", "p", "q")})
MORE = ({"e": "x", "d": "x"}, {"n": ("k", "d", "a"), "m": ("k", "e", "d")})
NAMES = {"w": "i", "v": "h", "u": "g", "t2": "f", "t1": "e", "c.1": "o", "b": "n", "a": "m"}
LEFT = ({"b": "x", "a": "x"}, {"t": ("k", "a", "b"), "s": ("k", "a", "a")})
RIGHT = ({"c": "x", "a": "x"}, {"u": ("k", "a", "c"), "s": ("k", "a", "a")})
RULE = (LEFT, RIGHT, [({"o": "x", **LEFT[0]}, dict(LEFT[1]))])


def other_order(thing):
    """The same thing, each dict's things put in the other way round, at whatever depth."""
    if isinstance(thing, dict):
        return {name: other_order(held) for name, held in reversed(list(thing.items()))}
    if isinstance(thing, (list, tuple)):
        return type(thing)(other_order(held) for held in thing)
    return thing


def spoil(thing):
    """Changes each list and each dict in thing, at whatever depth."""
    if isinstance(thing, (list, tuple)):
        for held in thing:
            spoil(held)
    if isinstance(thing, dict):
        for held in thing.values():
            spoil(held)
        thing.clear()
        thing["spoiled"] = "spoiled"
    if isinstance(thing, list):
        thing.append("spoiled")


def held_in(thing):
    """Each list and each dict in thing, at whatever depth."""
    own = [thing] if isinstance(thing, (list, dict)) else []
    if isinstance(thing, dict):
        return own + [one for held in thing.values() for one in held_in(held)]
    if isinstance(thing, (list, tuple)):
        return own + [one for held in thing for one in held_in(held)]
    return own


CALLS = [
    (is_name, ("a",)), (is_kind, ("a",)), (is_web, (RICH,)), (checked, (RICH,)), (things, (RICH,)), (hold, (RICH, "a")),
    (is_part, (RICH, RICH)), (is_part, (PIECE, RICH)), (without, (RICH, ["t2", "u", "t2"])), (without, (RICH, [])),
    (glued, (RICH, MORE)), (glued, (RICH, ({}, {}))), (renamed, (RICH, NAMES)),
    (is_match, (PIECE, RICH, {"s": "t1", "r": "t2", "q": "b", "p": "a"})), (is_match, (PIECE, RICH, {"p": "a"})),
    (line, (PIECE, {"s": "t1", "r": "t2", "q": "b", "p": "a"})), (matches, (PIECE, RICH)),
    (matches, (PIECE, RICH, {"s": "t1", "p": "a"})), (matches, (PIECE, RICH, {})), (matches, (({}, {}), RICH)),
    (likeness, (RICH, RICH)), (likeness, (RICH, RICH, {"t2": "t1", "b": "b"})), (likeness, (PIECE, RICH)),
    (is_rule, (RULE,)), (kept, (RULE,)), (taken, (RULE,)), (fresh_of, (RULE,)), (turned, (RULE,)),
    (turned, ((LEFT, RIGHT, []),)),
]

REFUSED = [
    (NoWeb, checked, (({"b": "x", "a": "X"}, {}),)), (Loose, without, (RICH, ["v", "a"])),
    (NoNames, glued, (RICH, ({"d": "x", "a": "x"}, {}))),
]


class Own(unittest.TestCase):
    def test_what_is_handed_in_is_the_same_behind_each_call(self):
        for asked, handed in CALLS:
            with self.subTest(asked.__name__):
                with Unchanged(self, handed):
                    asked(*handed)

    def test_what_is_handed_in_is_the_same_behind_a_refusal(self):
        for refusal, asked, handed in REFUSED:
            with self.subTest(asked.__name__):
                with Unchanged(self, handed):
                    self.assertRaises(refusal, asked, *handed)

    def test_what_is_told_is_new(self):
        for asked, handed in CALLS:
            with self.subTest(asked.__name__):
                told = held_in(asked(*handed))
                others = held_in(handed) + held_in(asked(*handed))
                for one in told:
                    self.assertEqual(1, len([other for other in told if other is one]))
                    self.assertFalse([other for other in others if other is one])

    def test_what_was_told_and_then_changed_changes_nothing(self):
        for asked, handed in CALLS:
            with self.subTest(asked.__name__):
                with Unchanged(self, handed):
                    shown = repr(asked(*handed))
                    spoil(asked(*handed))
                    self.assertEqual(shown, repr(asked(*handed)))

    def test_what_was_handed_in_and_then_changed_changes_nothing_told(self):
        for asked, handed in CALLS:
            with self.subTest(asked.__name__):
                own = other_order(handed)
                told = asked(*own)
                shown = repr(told)
                spoil(own)
                self.assertEqual(shown, repr(told))

    def test_nothing_hangs_on_the_order_in_a_dict(self):
        for asked, handed in CALLS:
            with self.subTest(asked.__name__):
                self.assertEqual(repr(asked(*handed)), repr(asked(*other_order(handed))))

    def test_the_samples_themselves(self):
        self.assertEqual(RICH, turned_about(RICH))
        self.assertNotEqual(repr(RICH), repr(turned_about(RICH)))
        self.assertTrue(is_rule(RULE))


if __name__ == "__main__":
    unittest.main()
