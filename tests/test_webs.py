"""Points 4 to 7: names, kinds, webs, and what is done to webs."""

import random
import unittest

from gluework.errors import GlueError, Loose, NoNames, NoWeb
from gluework.webs import (
    checked, glued, hold, is_kind, is_name, is_part, is_web, renamed, things, without,
)
from samples import EMPTY, ODD_THINGS, RICH, Unchanged, some_web, turned_about

NO_TEXTS = [thing for thing in ODD_THINGS if not isinstance(thing, str)]


def spoiled_webs():
    """RICH, spoiled in one place each."""
    points, ties = RICH
    yield [points, ties]
    yield (points,)
    yield (points, ties, {})
    yield (ties, points)
    yield (list(points.items()), ties)
    yield (points, list(ties.items()))
    yield (None, ties)
    yield (points, None)
    for name in ["", "A", "aB", "1a", ".a", "a b", "a\n", "a\t", "a_", "a-b", "a" * 25, 7, None, True, ("a",), 1.5]:
        yield ({**points, name: "x"}, ties)
        yield (points, {**ties, name: ("k", "a", "b")})
    for kind in ["", "X", "xX", "x1", "x.", "x y", "x\n", "x" * 9, 7, None, True, ["x"], ("x",), {}]:
        yield ({**points, "d": kind}, ties)
        yield (points, {**ties, "s": (kind, "a", "b")})
    for tie in [
        ["k", "a", "b"], ("k", "a"), ("k", "a", "b", "b"), ("k",), (), "kab", None, 7, {"k": "a"}, {}, ("a", "b", "k"),
    ]:
        yield (points, {**ties, "s": tie})
    for end in ["d", "t1", "s", "", "A", None, 7, ["a"], ("a",), {}, {"a": "x"}, True, 1.5]:
        yield (points, {**ties, "s": ("k", "a", end)})
        yield (points, {**ties, "s": ("k", end, "b")})
        yield (points, {**ties, "s": ("k", end, end)})
    yield ({**points, "t1": "x"}, ties)
    yield (points, {**ties, "a": ("k", "a", "b")})


class Names(unittest.TestCase):
    def test_names(self):
        for name in ["a", "z", "a1", "a.", "a.b", "a..", "a0.9z", "zzz", "a" * 24, "a." + "9" * 22]:
            with self.subTest(name):
                self.assertIs(is_name(name), True)

    def test_no_names(self):
        for text in [
            "", "a" * 25, "a" * 1000, "1", "1a", "9z", ".", ".a", "A", "Z", "aB", "bA", "a b", " a", "a ", " ", "\n",
            "a\n", "\na", "a\nb", "a\t", "\ta", "a_b", "_a", "a-b", "a:b", "a,b", "a(b", "a=b", "a/b", "`a", "a`", "{",
            "a{", "@", "a@", "a;", "a[", "[",
        ]:
            with self.subTest(text):
                self.assertIs(is_name(text), False)

    def test_kinds(self):
        for kind in ["a", "z", "ab", "abcdefg", "abcdefgh", "zzzzzzzz"]:
            with self.subTest(kind):
                self.assertIs(is_kind(kind), True)

    def test_no_kinds(self):
        for text in [
            "", "abcdefghi", "a" * 24, "a" * 1000, "1", "a1", "1a", ".", "a.", ".a", "a.b", "A", "aB", "Ba", "a b",
            " a",
            "a ", " ", "\n", "a\n", "\na", "a\t", "\t", "a_b", "a-b", "`", "{",
        ]:
            with self.subTest(text):
                self.assertIs(is_kind(text), False)

    def test_lengths(self):
        for length in range(30):
            with self.subTest(length):
                self.assertEqual(1 <= length <= 24, is_name("m" * length))
                self.assertEqual(1 <= length <= 8, is_kind("m" * length))

    def test_every_sign_alone_and_behind_a_letter(self):
        letters = "abcdefghijklmnopqrstuvwxyz"
        for sign in [chr(k) for k in range(32, 127)] + ["\n", "\t", "\r"]:
            with self.subTest(sign):
                self.assertEqual(sign in letters, is_name(sign))
                self.assertEqual(sign in letters + "0123456789.", is_name("a" + sign))
                self.assertEqual(sign in letters, is_kind(sign))
                self.assertEqual(sign in letters, is_kind("a" + sign))

    def test_what_is_no_text(self):
        for thing in NO_TEXTS:
            self.assertIs(is_name(thing), False)
            self.assertIs(is_kind(thing), False)


class Webs(unittest.TestCase):
    def test_good_webs(self):
        loop = ({"a": "x"}, {"t": ("k", "a", "a"), "s": ("k", "a", "a")})
        edges = ({"a" * 24: "x" * 8, "b": "x"}, {"t" * 24: ("k" * 8, "a" * 24, "b"), "t": ("k", "b", "b")})
        lone = ({"a": "a", "b": "a"}, {})
        for web in [EMPTY, RICH, loop, edges, lone, turned_about(RICH)]:
            with self.subTest(web):
                self.assertIs(is_web(web), True)
                self.assertEqual(web, checked(web))

    def test_webs_of_any_size(self):
        points = {f"p{k}": "x" for k in range(3000)}
        ties = {f"t{k}": ("k", f"p{k}", f"p{(7 * k) % 3000}") for k in range(3000)}
        self.assertIs(is_web((points, ties)), True)
        self.assertEqual((points, ties), checked((points, ties)))

    def test_spoiled_webs(self):
        for web in spoiled_webs():
            with self.subTest(web):
                with Unchanged(self, web):
                    self.assertIs(is_web(web), False)
                    self.assertRaises(NoWeb, checked, web)

    def test_what_is_of_any_other_kind(self):
        for thing in ODD_THINGS:
            with self.subTest(repr(thing)):
                self.assertIs(is_web(thing), False)
                self.assertRaises(NoWeb, checked, thing)

    def test_a_refusal_is_taken_as_glue_error_and_as_value_error(self):
        for above in (GlueError, ValueError):
            self.assertRaises(above, checked, None)

    def test_checked_is_of_new_dicts(self):
        told = checked(RICH)
        self.assertIsInstance(told, tuple)
        for named, own in zip(told, RICH):
            self.assertEqual(own, named)
            self.assertIsNot(own, named)


class Parts(unittest.TestCase):
    def test_things_in_order(self):
        self.assertEqual(["a", "b", "c.1", "t1", "t2", "u", "v", "w"], things(RICH))
        self.assertEqual(things(RICH), things(turned_about(RICH)))
        self.assertEqual([], things(EMPTY))

    def test_points_stand_ahead_of_ties(self):
        web = ({"z": "x", "m": "x"}, {"n": ("k", "z", "m"), "a": ("k", "m", "m")})
        self.assertEqual(["m", "z", "a", "n"], things(web))

    def test_order_is_that_of_texts(self):
        web = ({name: "x" for name in ["a10", "a2", "a.", "a", "aa", "b"]}, {})
        self.assertEqual(["a", "a.", "a10", "a2", "aa", "b"], things(web))

    def test_hold(self):
        for web in (RICH, turned_about(RICH)):
            self.assertEqual(["t1", "t2", "u", "v"], hold(web, "a"))
            self.assertEqual(["t1", "t2", "u", "v"], hold(web, "b"))

    def test_a_loop_is_once_in_its_hold(self):
        self.assertEqual(["w"], hold(RICH, "c.1"))
        web = ({"a": "x", "b": "x"}, {"z": ("k", "a", "a"), "s": ("k", "b", "a"), "y": ("k", "b", "b")})
        self.assertEqual(["s", "z"], hold(web, "a"))
        self.assertEqual(["s", "y"], hold(web, "b"))

    def test_a_point_without_ties(self):
        self.assertEqual([], hold(({"a": "x", "b": "x"}, {"t": ("k", "b", "b")}), "a"))

    def test_hold_takes_no_kind_for_an_end(self):
        self.assertEqual([], hold(({"k": "k", "b": "x"}, {"t": ("k", "b", "b")}), "k"))

    def test_parts(self):
        some = ({"a": "x", "b": "x"}, {"t1": ("k", "a", "b")})
        for part in [EMPTY, RICH, turned_about(RICH), some, ({"a": "x"}, {}), (RICH[0], {})]:
            with self.subTest(part):
                self.assertIs(is_part(part, RICH), True)
        for part in [EMPTY, some, ({"a": "x"}, {}), (RICH[0], {})]:
            with self.subTest(part):
                self.assertIs(is_part(RICH, part), False)

    def test_no_parts(self):
        both = {"a": "x", "b": "x"}
        for other in [
            ({"a": "y"}, {}), ({"d": "x"}, {}), ({"t1": "k"}, {}), ({"a": "x", "d": "x"}, {}),
            (both, {"t1": ("l", "a", "b")}), (both, {"t1": ("k", "b", "a")}), (both, {"t1": ("k", "a", "a")}),
            (both, {"t1": ("k", "b", "b")}), (both, {"s": ("k", "a", "b")}), (both, {"c.1": ("k", "a", "b")}),
            (both, {"t1": ("k", "a", "b"), "s": ("k", "a", "b")}),
        ]:
            with self.subTest(other):
                self.assertIs(is_web(other), True)
                self.assertIs(is_part(other, RICH), False)


class Cut(unittest.TestCase):
    def test_nothing_taken_out(self):
        self.assertEqual(RICH, without(RICH, []))
        self.assertEqual(EMPTY, without(EMPTY, []))

    def test_ties_taken_out(self):
        told = without(RICH, ["u", "t1"])
        self.assertEqual((RICH[0], {name: RICH[1][name] for name in ["t2", "v", "w"]}), told)

    def test_points_and_their_holds_taken_out(self):
        left = ({"c.1": "y"}, {"w": ("k", "c.1", "c.1")})
        for names in [
            ["a", "b", "t1", "t2", "u", "v"], ["v", "u", "t2", "t1", "b", "a"],
            ["t1", "a", "t2", "a", "u", "b", "v", "t1", "b", "b"],
        ]:
            with self.subTest(names):
                self.assertEqual(left, without(RICH, names))
        self.assertEqual(EMPTY, without(RICH, things(RICH)))
        self.assertEqual(EMPTY, without(RICH, list(reversed(things(RICH))) * 2))

    def test_one_end_taken_out_with_its_hold(self):
        self.assertEqual(
            ({"b": "x", "c.1": "y"}, {"w": ("k", "c.1", "c.1")}), without(RICH, ["a", "t1", "t2", "u", "v"])
        )

    def test_a_loop_taken_out_with_its_point(self):
        self.assertEqual(
            ({"a": "x", "b": "x"}, {name: RICH[1][name] for name in ["t1", "t2", "u", "v"]}),
            without(RICH, ["w", "c.1"])
        )

    def test_loose_ties(self):
        for names in [
            ["a"], ["b"], ["c.1"], ["a", "b"], ["a", "t1"], ["a", "t1", "t2", "u"], ["v", "a", "u", "t2"], ["a", "a"],
            ["a", "b", "c.1", "t1", "t2", "u", "v"], ["a", "b", "t1", "t2", "v", "w"], ["b", "t1", "t2", "u"],
        ]:
            with self.subTest(names):
                with Unchanged(self, RICH, names):
                    self.assertRaises(Loose, without, RICH, names)


class Glue(unittest.TestCase):
    def test_points_and_ties_glued_in(self):
        more = ({"d": "z"}, {"s": ("k", "a", "d"), "r": ("k", "d", "d"), "q": ("l", "b", "a")})
        points = {"a": "x", "b": "x", "c.1": "y", "d": "z"}
        self.assertEqual((points, {**RICH[1], **more[1]}), glued(RICH, more))

    def test_nothing_glued_in(self):
        self.assertEqual(RICH, glued(RICH, EMPTY))
        self.assertEqual(RICH, glued(EMPTY, RICH))
        self.assertEqual(EMPTY, glued(EMPTY, EMPTY))

    def test_names_that_are_there(self):
        for more in [
            ({"a": "x"}, {}), ({"a": "z"}, {}), ({"t1": "x"}, {}), ({"d": "x", "c.1": "y"}, {}),
            ({}, {"t1": ("k", "a", "b")}), ({}, {"t1": ("l", "b", "b")}), ({}, {"a": ("k", "a", "b")}),
            ({"d": "x"}, {"s": ("k", "d", "d"), "w": ("k", "d", "a")}), ({"d": "x"}, {"b": ("k", "d", "d")}), RICH,
        ]:
            with self.subTest(more):
                with Unchanged(self, RICH, more):
                    self.assertRaises(NoNames, glued, RICH, more)

    def test_cut_and_glued_in_again(self):
        more = ({"d": "z"}, {"s": ("k", "a", "d")})
        self.assertEqual(RICH, without(glued(RICH, more), ["d", "s"]))


class Renamed(unittest.TestCase):
    def test_other_names(self):
        names = {"a": "m", "b": "n", "c.1": "o", "t1": "e", "t2": "f", "u": "g", "v": "h", "w": "i"}
        self.assertEqual(
            (
                {"m": "x", "n": "x", "o": "y"},
                {
                    "e": ("k", "m", "n"), "f": ("k", "m", "n"), "g": ("l", "m", "n"), "h": ("k", "n", "m"),
                    "i": ("k", "o", "o"),
                },
            ),
            renamed(RICH, names),
        )

    def test_its_own_names_changed_about(self):
        web = ({"a": "x", "b": "y"}, {"t": ("k", "a", "b"), "u": ("l", "b", "b")})
        names = {"a": "b", "b": "t", "t": "u", "u": "a"}
        self.assertEqual(({"b": "x", "t": "y"}, {"u": ("k", "b", "t"), "a": ("l", "t", "t")}), renamed(web, names))

    def test_kinds_are_not_renamed(self):
        web = ({"k": "k", "x": "x"}, {"t": ("k", "k", "x")})
        self.assertEqual(({"x": "k", "k": "x"}, {"t": ("k", "x", "k")}), renamed(web, {"k": "x", "x": "k", "t": "t"}))

    def test_the_web_without_things(self):
        self.assertEqual(EMPTY, renamed(EMPTY, {}))

    def test_renamed_back_it_is_the_web(self):
        chance = random.Random(5)
        for round_number in range(60):
            web = some_web(chance, chance.randrange(6), chance.randrange(7))
            olds = things(web)
            news = olds + ["m", "n.1"]
            chance.shuffle(news)
            names = dict(zip(olds, news))
            told = renamed(web, names)
            self.assertIs(is_web(told), True)
            self.assertEqual(sorted(names.values()), sorted(things(told)))
            self.assertEqual(web, renamed(told, {new: old for old, new in names.items()}))


if __name__ == "__main__":
    unittest.main()
