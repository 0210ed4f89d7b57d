"""Points 29 and 30: webs, rules and matches as texts."""

import random
import re
import unittest

from gluework.errors import GlueError, NoText
from gluework.matches import matches
from gluework.rules import is_rule
from gluework.texts import match_shown, rule_read, rule_shown, web_read, web_shown
from samples import (
    EMPTY, ODD_THINGS, RICH, Unchanged, names_in_order, some_piece, some_rule, some_web, turned_about,
)

NAME = r"[a-z][a-z0-9.]{0,23}"
THING = re.compile(rf"({NAME}):([a-z]{{1,8}})(?:\(({NAME}),({NAME})\))?")
RICH_TEXT = "a:x b:x c.1:y t1:k(a,b) t2:k(a,b) u:l(a,b) v:k(b,a) w:k(c.1,c.1)"
LONG_NAME = "a23456789.123456789.1234"
POINTS = [f"p{k}:x" for k in range(40)]
TIES = [f"t{k}:k(p0,p1)" for k in range(60)]
LINE = "a:x b:x c:x d:x s:k(a,b) t:k(b,c) u:k(c,d) v:k(d,a)"
WIDE = "a:x b:x c:x d:x e:x f:x g:k(a,b) h:k(a,b) i:k(a,b) j:k(a,b) k:k(a,b) l:k(a,b)"

NO_WEBS = [
    "", " ", "  ", "- ", " -", "--", "- -", "- a:x", "a:x -", "a", "a:", ":x", ":", "a:x:y", "a::x", "a x", "a :x",
    "a: x",
    "a:x ", " a:x", "a:x  b:x", "a:x b:x ", "a:x\tb:x", "a:x\nb:x", "a:x\n", "\na:x", "a:x,b:x", "a:x;b:x", "a:x.",
    "A:x", "a:X", "a_b:x", "a-b:x", "1:x", ".a:x", "1a:x", "a:x1", "a:x.y", "a:abcdefghi", LONG_NAME + "5:x", "a=x",
    "a:x()", "a:x(", "a:x)", "a:x(a)", "a:x t:k()", "a:x t:k(,)", "a:x t:k(a)", "a:x t:k(a,)", "a:x t:k(,a)",
    "a:x t:k(a,a", "a:x t:ka,a)", "a:x t:k a,a)", "a:x t:k(a, a)", "a:x t:k(a ,a)", "a:x t:k (a,a)", "a:x t:k( a,a)",
    "a:x t:k(a,a) ", "a:x t:k(a,a,a)", "a:x t:k(a,a))", "a:x t:k((a,a)", "a:x t:k(a,a)x", "a:x t:k(a,a)(a,a)",
    "a:x t:(a,a)", "a:x :k(a,a)", "a:x t(a,a)", "a:x t:K(a,a)", "a:x T:k(a,a)", "a:x t:k[a,a]", "a:x t:k(a;a)",
    "a:x t:abcdefghi(a,a)", "a:x " + LONG_NAME + "5:k(a,a)", "t:k(a,a)", "a:x t:k(a,b)", "a:x t:k(b,a)", "a:x t:k(A,a)",
    "a:x t:k(a,t)", "a:x s:k(a,a) t:k(s,a)", "a:x t:k(t,t)", "a:x t:k(a,a.)",
    "a:x a:x", "a:x a:y", "a:x a:k(a,a)", "a:k(a,a) a:x", "a:x t:k(a,a) t:k(a,a)", "a:x t:k(a,a) t:l(a,a)",
    "a:x t:k(a,a) t:x", "a:x t:x t:k(a,a)", "a:x b:x a:x", "a:x > b:x", "a:x ! b:x", "> -", "- > -", "a:x!",
    "a:x b:x !",
]
NO_RULES = [
    "", " ", "-", "->-", "- >-", "-> -", "->  -", "- > ", " > -", " > ", ">", "- > - ", " - > -", "-  > -", "- >  -",
    "- > - > -", "- >", "> -", "- > - !", "- > - ! ", "- > -! -", "- > - !-", "- > -!-", "- > - !  -", "- > -  ! -",
    "- ! - > -", "! - > -", "- ! -", "- > - ! - > -", "- > - ! ! -", "- > ! -", "- > - ! - !", "- > - ! - ! ",
    "- < -", "- = -", "- > - | -", "a:x  > -", "a:x >  b:x", "a:x > b:x c:X", "a:x > a:x t:k(a,b)", "t:k(a,a) > -",
    "- > -\n", "\n- > -", "- >\n-", "-\n> -", "- > - !\t-", "a:x > a:x  b:x", "a:x b:x a:x > -", "- > a:x a:x",
]
# Well written, but no rules by point 11.
UNRULY = [
    "a.b:x > -", "a1:x > -", "abcdefghi:x > -", "- > a.b:x", "- > a1:x", "- > abcdefghi:x", "a:x t.t:k(a,a) > -",
    "a:x > a:y", "a:x t:k(a,a) > a:x t:l(a,a)", "a:x b:x t:k(a,b) > a:x b:x t:k(b,a)", "a:x t:k(a,a) > t:x",
    "t:x > a:x t:k(a,a)", "a:x b:x c:x d:x e:x > -", "- > a:x b:x c:x d:x e:x",
    LINE + " w:k(a,a) > -", "- > " + LINE + " w:k(a,a)", "a:x > - ! -", "a:x > - ! b:x", "a:x > a:x ! a:y",
    "a:x t:k(a,a) > - ! a:x", "a:x t:k(a,a) > - ! a:x t:l(a,a)", "- > - ! - ! - ! - ! -", "- > - ! " + WIDE + " m:x",
    "- > - ! " + WIDE + " m:k(a,b)", "- > - ! a.b:x", "- > - ! - ! a1:x", "a:x > - ! a:x ! a:x ! b:x",
]


def slow_web(text):
    """The web of point 29, word for word, or None."""
    if not isinstance(text, str):
        return None
    points = {}
    ties = {}
    for part in [] if text == "-" else text.split(" "):
        told = THING.fullmatch(part)
        if told is None or told[1] in points or told[1] in ties:
            return None
        if told[3] is None:
            points[told[1]] = told[2]
        else:
            ties[told[1]] = (told[2], told[3], told[4])
    if len(points) > 40 or len(ties) > 60:
        return None
    if any(end not in points for tie in ties.values() for end in tie[1:]):
        return None
    return points, ties


def slow_rule(text):
    """The rule of point 30, word for word, or None."""
    told = re.fullmatch(r"([^>!]*) > ([^>!]*)((?: ! [^>!]*)*)", text, re.DOTALL)
    if told is None:
        return None
    bars = [slow_web(bar) for bar in told[3].split(" ! ")[1:]]
    rule = (slow_web(told[1]), slow_web(told[2]), bars)
    return rule if is_rule(rule) else None


def spoiled(chance, text):
    """The text with one sign, or a few, changed, added or left out."""
    place = chance.randrange(len(text) + 1)
    more = chance.choice([*" -:(),abx.1A>!=", " ", " > ", " ! ", "\n"])
    way = chance.randrange(4)
    if way == 0:
        return text[:place] + more + text[place:]
    if way == 1:
        return text[:place] + text[place + 1:]
    if way == 2:
        return text[:place] + more + text[place + 1:]
    parts = text.split(" ")
    chance.shuffle(parts)
    return " ".join(parts)


def shown_in_any_order(chance, web):
    """The web's things as texts, in an order drawn by chance."""
    parts = web_shown(web).split(" ")
    chance.shuffle(parts)
    return " ".join(parts)


class Written(unittest.TestCase):
    def assert_shown(self, text, web):
        for one in (web, turned_about(web)):
            with Unchanged(self, one):
                self.assertEqual(text, web_shown(one))

    def test_webs(self):
        self.assert_shown("-", EMPTY)
        self.assert_shown("a:x", ({"a": "x"}, {}))
        self.assert_shown(RICH_TEXT, RICH)
        self.assert_shown("b:x c:y a:k(c,b)", ({"c": "y", "b": "x"}, {"a": ("k", "c", "b")}))
        self.assert_shown("a:x a.:x a.1:x a1:x ab:x b:x",
                          ({"b": "x", "ab": "x", "a1": "x", "a.1": "x", "a.": "x", "a": "x"}, {}))
        self.assert_shown("n10.a:x n2.a:x", ({"n2.a": "x", "n10.a": "x"}, {}))
        self.assert_shown(f"{LONG_NAME}:abcdefgh t:k({LONG_NAME},{LONG_NAME})",
                          ({LONG_NAME: "abcdefgh"}, {"t": ("k", LONG_NAME, LONG_NAME)}))

    def test_rules(self):
        left = ({"b": "x", "a": "x"}, {"t": ("k", "a", "b")})
        bar = ({"c": "y", "b": "x", "a": "x"}, {"t": ("k", "a", "b")})
        for rule, text in [
            ((EMPTY, EMPTY, []), "- > -"), ((EMPTY, EMPTY, [EMPTY]), "- > - ! -"),
            ((EMPTY, EMPTY, [EMPTY, EMPTY, EMPTY]), "- > - ! - ! - ! -"), ((left, EMPTY, []), "a:x b:x t:k(a,b) > -"),
            ((EMPTY, left, []), "- > a:x b:x t:k(a,b)"),
            ((left, ({"a": "x"}, {}), [bar, left]),
             "a:x b:x t:k(a,b) > a:x ! a:x b:x c:y t:k(a,b) ! a:x b:x t:k(a,b)"),
        ]:
            with Unchanged(self, rule):
                self.assertEqual(text, rule_shown(rule))
            self.assertEqual(rule, rule_read(text))

    def test_matches(self):
        piece = ({"q": "x", "p": "x"}, {"a": ("k", "p", "q")})
        for match, text in [
            ({"a": "t1", "q": "b", "p": "a"}, "p=a q=b a=t1"), ({"p": "b", "q": "a", "a": "v"}, "p=b q=a a=v"),
        ]:
            with Unchanged(self, piece, match):
                self.assertEqual(text, match_shown(piece, match))
        self.assertEqual("-", match_shown(EMPTY, {}))
        self.assertEqual("p=" + LONG_NAME, match_shown(({"p": "x"}, {}), {"p": LONG_NAME}))

    def test_drawn_matches(self):
        chance = random.Random(229)
        for round_number in range(100):
            web = some_web(chance, chance.randrange(6), chance.randrange(6))
            piece = some_piece(chance, web)
            for match in matches(piece, web)[:5]:
                words = [f"{name}={match[name]}" for name in names_in_order(piece)]
                self.assertEqual(" ".join(words) or "-", match_shown(turned_about(piece), match))


class Read(unittest.TestCase):
    def assert_refused(self, asked, text):
        with Unchanged(self, text):
            with self.assertRaises(GlueError, msg=text) as caught:
                asked(text)
        self.assertIs(NoText, type(caught.exception), text)

    def assert_as_slow(self, asked, slow, text):
        """It is read as the slow way reads it, or refused; told is whether it is read."""
        expected = slow(text)
        if expected is None:
            self.assert_refused(asked, text)
        else:
            told = asked(text)
            self.assertEqual(expected, told, text)
            self.assertEqual(type(expected), type(told))
        return expected is not None

    def test_webs(self):
        for text, web in [
            ("-", EMPTY), ("a:x", ({"a": "x"}, {})), ("b:x a:y", ({"a": "y", "b": "x"}, {})), (RICH_TEXT, RICH),
            ("t:k(a,b) a:x s:k(b,b) b:x", ({"a": "x", "b": "x"}, {"s": ("k", "b", "b"), "t": ("k", "a", "b")})),
            ("a.:x a..1:x", ({"a.": "x", "a..1": "x"}, {})),
            (f"t:k({LONG_NAME},{LONG_NAME}) {LONG_NAME}:abcdefgh",
             ({LONG_NAME: "abcdefgh"}, {"t": ("k", LONG_NAME, LONG_NAME)})),
            ("x:x k:x(x,x)", ({"x": "x"}, {"k": ("x", "x", "x")})),
        ]:
            self.assertEqual(web, web_read(text))
            self.assertTrue(self.assert_as_slow(web_read, slow_web, text))

    def test_what_is_no_web(self):
        for text in NO_WEBS:
            self.assertIsNone(slow_web(text), text)
            self.assert_refused(web_read, text)

    def test_other_kinds(self):
        for thing in ODD_THINGS + [RICH, EMPTY, ["-"], ("-",), b"-", ["a:x"]]:
            self.assert_refused(web_read, thing)
            self.assert_refused(rule_read, thing)
        self.assert_refused(rule_read, (EMPTY, EMPTY, []))
        self.assert_refused(rule_read, b"- > -")
        self.assert_refused(rule_read, ["-", "-"])

    def test_forty_points_and_sixty_ties(self):
        for text in (POINTS + TIES, TIES + POINTS, POINTS, POINTS + TIES[:59], POINTS[:39] + TIES):
            web = web_read(" ".join(text))
            self.assertEqual(len(text), len(web[0]) + len(web[1]))
        for text in (
            POINTS + ["q:x"], ["q:x"] + POINTS, POINTS + TIES + ["u:k(p0,p0)"], ["u:k(p0,p0)"] + TIES + POINTS,
            ["p0:x", "p1:x"] + TIES + ["u:l(p0,p1)"], POINTS + TIES + ["q:x"],
        ):
            self.assert_refused(web_read, " ".join(text))

    def test_what_is_read_and_written_again_is_in_its_own_order(self):
        text = "v:k(b,a) t2:k(a,b) w:k(c.1,c.1) c.1:y u:l(a,b) b:x t1:k(a,b) a:x"
        self.assertEqual(RICH_TEXT, web_shown(web_read(text)))
        self.assertEqual(
            "a:x b:x t:k(a,b) > a:x c:y ! a:x b:x s:k(b,a) t:k(a,b)",
            rule_shown(rule_read("t:k(a,b) b:x a:x > c:y a:x ! b:x t:k(a,b) s:k(b,a) a:x")),
        )
        chance = random.Random(233)
        for round_number in range(200):
            web = some_web(chance, chance.randrange(9), chance.randrange(9))
            text = shown_in_any_order(chance, web)
            self.assertEqual(web, web_read(text))
            self.assertEqual(web_shown(web), web_shown(web_read(text)))
            left, right, bars = some_rule(chance, "xxy", "kkl", 3)
            text = shown_in_any_order(chance, left) + " > " + shown_in_any_order(chance, right)
            for bar in bars:
                text += " ! " + shown_in_any_order(chance, bar)
            self.assertEqual((left, right, bars), rule_read(text))
            self.assertEqual(rule_shown((left, right, bars)), rule_shown(rule_read(text)))

    def test_rules(self):
        left = ({"a": "x"}, {"t": ("k", "a", "a")})
        for text, rule in [
            ("- > -", (EMPTY, EMPTY, [])), ("t:k(a,a) a:x > -", (left, EMPTY, [])),
            ("t:k(a,a) a:x > a:x ! a:x t:k(a,a) ! b:y t:k(a,a) a:x",
             (left, ({"a": "x"}, {}), [left, ({"a": "x", "b": "y"}, left[1])])),
            (LINE + " > " + LINE + " ! " + LINE + " ! " + LINE + " ! " + LINE,
             (slow_web(LINE), slow_web(LINE), [slow_web(LINE)] * 3)),
            ("- > - ! " + WIDE, (EMPTY, EMPTY, [slow_web(WIDE)])),
            ("abcdefgh:abcdefgh > -", (({"abcdefgh": "abcdefgh"}, {}), EMPTY, [])),
        ]:
            self.assertEqual(rule, rule_read(text))
            self.assertTrue(self.assert_as_slow(rule_read, slow_rule, text))

    def test_what_is_no_rule(self):
        for text in NO_RULES + UNRULY:
            self.assertIsNone(slow_rule(text), text)
            self.assert_refused(rule_read, text)
        for text in NO_WEBS:
            for rule in ("{} > -", "- > {}", "- > - ! {}", "- > - ! - ! {}"):
                self.assert_as_slow(rule_read, slow_rule, rule.format(text))

    def test_what_is_no_rule_by_its_size_alone(self):
        self.assertTrue(is_rule(rule_read(LINE + " > " + LINE)))
        many = " ".join(POINTS)
        for text in (many + " > -", "- > " + many, "- > - ! " + many, "- > - ! " + " ".join(POINTS + ["q:x"])):
            self.assert_refused(rule_read, text)

    def test_unruly_texts_are_well_written(self):
        for text in UNRULY:
            self.assertNotIn(None, [slow_web(web) for web in re.split(" [>!] ", text)], text)

    def test_drawn_texts(self):
        chance = random.Random(239)
        counts = {True: 0, False: 0}
        rule_counts = {True: 0, False: 0}
        for round_number in range(3000):
            web = some_web(chance, chance.randrange(5), chance.randrange(4), mark=chance.choice(["", "n0.", "a"]))
            text = spoiled(chance, web_shown(web))
            counts[self.assert_as_slow(web_read, slow_web, text)] += 1
            text = spoiled(chance, rule_shown(some_rule(chance, "xxy", "kkl", 3)))
            rule_counts[self.assert_as_slow(rule_read, slow_rule, text)] += 1
        self.assertGreater(min([*counts.values(), *rule_counts.values()]), 80, (counts, rule_counts))

    def test_what_is_told_is_new(self):
        for asked, text in [(web_read, RICH_TEXT), (web_read, "-"), (rule_read, "a:x > - ! a:x")]:
            shown = repr(asked(text))
            told = asked(text)
            told[0].clear() if asked is web_read else told[2].clear()
            told[1].clear() if asked is web_read else told[0][0].clear()
            self.assertEqual(shown, repr(asked(text)))


if __name__ == "__main__":
    unittest.main()
