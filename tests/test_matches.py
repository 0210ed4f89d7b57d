"""Points 8 to 10: matches and likenesses."""

import random
import signal
import unittest

from gluework.matches import is_match, likeness, line, matches
from gluework.webs import renamed, things
from samples import (
    EMPTY, ODD_THINGS, RICH, Unchanged, does_as, names_in_order, ring, slow_matches, some_piece, some_web,
    turned_about,
)

ARROW = ({"p": "x", "q": "x"}, {"s": ("k", "p", "q")})
ARROW_MATCH = {"p": "a", "q": "b", "s": "t1"}

# Two ties of one kind side by side, and a loop.
PAIR = ({"q": "x", "p": "x", "o": "y"}, {"s": ("k", "p", "q"), "r": ("k", "p", "q"), "z": ("k", "o", "o")})


def lines_of(piece, told):
    return [line(piece, match) for match in told]


class IsMatch(unittest.TestCase):
    def test_matches(self):
        for match in [ARROW_MATCH, {"s": "t2", "q": "b", "p": "a"}, {"p": "b", "q": "a", "s": "v"}]:
            with self.subTest(match):
                self.assertIs(is_match(ARROW, RICH, match), True)

    def test_a_piece_with_a_loop_and_two_ties_of_one_kind(self):
        match = {"o": "c.1", "p": "a", "q": "b", "r": "t2", "s": "t1", "z": "w"}
        self.assertIs(is_match(PAIR, RICH, match), True)
        self.assertIs(is_match(PAIR, RICH, {**match, "r": "t1", "s": "t2"}), True)
        for changed in [{"r": "t1"}, {"r": "u"}, {"r": "v"}, {"z": "v"}, {"z": "t1"}, {"o": "a"}]:
            with self.subTest(changed):
                self.assertIs(is_match(PAIR, RICH, {**match, **changed}), False)

    def test_two_things_changed_about(self):
        for match in [
            {"p": "b", "q": "a", "s": "t1"}, {"p": "t1", "q": "b", "s": "a"}, {"p": "a", "q": "t1", "s": "b"},
        ]:
            with self.subTest(match):
                self.assertIs(is_match(ARROW, RICH, match), False)

    def test_a_name_left_out_or_one_more(self):
        for name in ARROW_MATCH:
            less = {other: image for other, image in ARROW_MATCH.items() if other != name}
            self.assertIs(is_match(ARROW, RICH, less), False)
            self.assertIs(is_match(ARROW, RICH, {**less, "o": ARROW_MATCH[name]}), False)
        for more in [{"o": "c.1"}, {"o": "u"}, {1: "u"}, {None: None}, {"a": "a"}]:
            with self.subTest(more):
                self.assertIs(is_match(ARROW, RICH, {**ARROW_MATCH, **more}), False)
        self.assertIs(is_match(ARROW, RICH, {}), False)

    def test_two_put_to_one(self):
        points = ({"p": "x", "q": "x"}, {})
        self.assertIs(is_match(points, RICH, {"p": "a", "q": "a"}), False)
        self.assertIs(is_match(points, RICH, {"p": "b", "q": "a"}), True)
        web = ({"a": "x"}, {"t": ("k", "a", "a")})
        self.assertIs(is_match(ARROW, web, {"p": "a", "q": "a", "s": "t"}), False)
        ties = ({"p": "x", "q": "x"}, {"s": ("k", "p", "q"), "r": ("k", "p", "q")})
        self.assertIs(is_match(ties, RICH, {"p": "a", "q": "b", "s": "t1", "r": "t1"}), False)
        self.assertIs(is_match(ties, RICH, {"p": "a", "q": "b", "s": "t1", "r": "t2"}), True)

    def test_a_name_that_is_none(self):
        for name in ARROW_MATCH:
            for image in ["d", "", "A", "no name", "x", "k", "c.1", "w"]:
                with self.subTest((name, image)):
                    self.assertIs(is_match(ARROW, RICH, {**ARROW_MATCH, name: image}), False)

    def test_other_kinds_and_other_ends(self):
        for match in [
            {"p": "a", "q": "b", "s": "u"}, {"p": "a", "q": "b", "s": "v"}, {"p": "a", "q": "c.1", "s": "t1"},
            {"p": "c.1", "q": "b", "s": "t1"},
        ]:
            with self.subTest(match):
                self.assertIs(is_match(ARROW, RICH, match), False)
        point = ({"p": "x"}, {})
        self.assertIs(is_match(point, RICH, {"p": "a"}), True)
        self.assertIs(is_match(point, RICH, {"p": "c.1"}), False)
        loop = ({"p": "x"}, {"s": ("k", "p", "p")})
        self.assertIs(is_match(loop, RICH, {"p": "a", "s": "t1"}), False)
        self.assertIs(is_match(loop, RICH, {"p": "a", "s": "w"}), False)

    def test_what_is_no_text(self):
        for name in ARROW_MATCH:
            for image in ODD_THINGS + [["a"], {"a": "b"}, ("k", "a", "b")]:
                with self.subTest((name, repr(image))):
                    self.assertIs(is_match(ARROW, RICH, {**ARROW_MATCH, name: image}), image == ARROW_MATCH[name])

    def test_what_is_no_dict(self):
        for thing in ODD_THINGS + [list(ARROW_MATCH.items()), list(ARROW_MATCH), [ARROW_MATCH]]:
            with self.subTest(repr(thing)):
                self.assertIs(is_match(ARROW, RICH, thing), False)

    def test_the_piece_without_things(self):
        self.assertIs(is_match(EMPTY, RICH, {}), True)
        self.assertIs(is_match(EMPTY, EMPTY, {}), True)
        self.assertIs(is_match(EMPTY, RICH, {"a": "a"}), False)
        for thing in [None, [], (), "", 0, False]:
            self.assertIs(is_match(EMPTY, RICH, thing), False)

    def test_line(self):
        piece = ({"z": "x", "m": "x"}, {"y": ("k", "z", "m"), "a": ("k", "m", "m")})
        match = {"a": "one", "m": "two", "y": "three", "z": "four"}
        self.assertEqual(["two", "four", "one", "three"], line(piece, match))
        self.assertEqual(["two", "four", "one", "three"], line(turned_about(piece), match))
        self.assertEqual([], line(EMPTY, {}))


class Matches(unittest.TestCase):
    def test_each_once_in_order(self):
        self.assertEqual(
            [{"p": "a", "q": "b", "s": "t1"}, {"p": "a", "q": "b", "s": "t2"}, {"p": "b", "q": "a", "s": "v"}],
            matches(ARROW, RICH),
        )

    def test_the_piece_without_things(self):
        self.assertEqual([{}], matches(EMPTY, RICH))
        self.assertEqual([{}], matches(EMPTY, EMPTY))
        self.assertEqual([{}], matches(EMPTY, RICH, {}))
        self.assertEqual([], matches(ARROW, EMPTY))

    def test_loops_and_ties_side_by_side(self):
        self.assertEqual(
            [
                {"o": "c.1", "p": "a", "q": "b", "r": "t1", "s": "t2", "z": "w"},
                {"o": "c.1", "p": "a", "q": "b", "r": "t2", "s": "t1", "z": "w"},
            ],
            matches(PAIR, RICH),
        )
        loop = ({"p": "x"}, {"s": ("k", "p", "p")})
        self.assertEqual([], matches(loop, RICH))
        self.assertEqual([], matches(ARROW, ({"a": "x"}, {"t": ("k", "a", "a")})))
        two = ({"a": "x"}, {"t": ("k", "a", "a"), "u": ("k", "a", "a")})
        self.assertEqual([{"p": "a", "s": "t"}, {"p": "a", "s": "u"}], matches(loop, two))

    def test_the_order_is_that_of_lines(self):
        piece = ({"z": "x", "m": "x"}, {"y": ("k", "z", "m"), "a": ("k", "z", "m")})
        told = matches(piece, RICH)
        self.assertEqual([["b", "a", "t1", "t2"], ["b", "a", "t2", "t1"]], lines_of(piece, told))
        points = ({"z": "x", "m": "y", "a": "x"}, {})
        web = ({"p10": "x", "p2": "x", "p.": "x", "q": "y", "p3": "y"}, {})
        told = lines_of(points, matches(points, web))
        self.assertEqual(12, len(told))
        self.assertEqual(sorted(told), told)
        self.assertEqual(["p.", "p3", "p10"], told[0])
        self.assertEqual(["p2", "q", "p10"], told[-1])

    def test_fixed(self):
        for fixed, lines in [
            ({"p": "a"}, [["a", "b", "t1"], ["a", "b", "t2"]]), ({"q": "a"}, [["b", "a", "v"]]),
            ({"s": "t2"}, [["a", "b", "t2"]]), ({"s": "t2", "p": "a"}, [["a", "b", "t2"]]),
            ({"s": "v", "q": "a", "p": "b"}, [["b", "a", "v"]]),
            ({"p": "a", "q": "b"}, [["a", "b", "t1"], ["a", "b", "t2"]]),
            ({"s": "t2", "p": "b"}, []), ({"s": "u"}, []), ({"s": "w"}, []), ({"p": "c.1"}, []), ({"p": "t1"}, []),
            ({"s": "a"}, []), ({"p": "a", "q": "a"}, []), ({"p": "nowhere"}, []), ({"s": "nowhere"}, []),
            ({"p": ""}, []),
            ({"s": "no name at all\n"}, []), ({"p": "nowhere", "q": "b", "s": "t1"}, []),
        ]:
            with self.subTest(fixed):
                with Unchanged(self, ARROW, RICH, fixed):
                    self.assertEqual(lines, lines_of(ARROW, matches(ARROW, RICH, fixed)))

    def test_fixed_ties_side_by_side(self):
        for fixed, count in [
            ({"r": "t2"}, 1), ({"s": "t2"}, 1), ({"r": "t1", "s": "t2"}, 1), ({"r": "t1", "s": "t1"}, 0),
            ({"r": "v"}, 0), ({"z": "w"}, 2), ({"z": "t1"}, 0), ({"o": "c.1", "z": "w", "r": "t1"}, 1),
        ]:
            with self.subTest(fixed):
                told = matches(PAIR, RICH, fixed)
                self.assertEqual(count, len(told))
                self.assertTrue(all(does_as(match, fixed) for match in told))

    def test_none_and_left_out_and_no_names_are_alike(self):
        for piece in (ARROW, PAIR, EMPTY):
            told = matches(piece, RICH)
            self.assertEqual(told, matches(piece, RICH, None))
            self.assertEqual(told, matches(piece, RICH, {}))
            self.assertEqual(told, matches(piece, RICH, fixed=None))

    def test_against_a_slow_search(self):
        chance = random.Random(11)
        some = 0
        for round_number in range(400):
            web = some_web(chance, chance.randrange(5), chance.randrange(7), "xxy", "kkkl")
            piece = some_piece(chance, web)
            if chance.randrange(3) == 0:
                piece = some_web(chance, chance.randrange(4), chance.randrange(4), "xxy", "kkkl", "z")
            slow = slow_matches(piece, web)
            some += len(slow) > 1
            self.assertEqual(slow, matches(piece, web))
            self.assertTrue(all(is_match(piece, web, match) for match in slow))
            for match in slow[:3] + slow[-1:]:
                names = chance.sample(names_in_order(piece), chance.randrange(len(match) + 1))
                fixed = {name: match[name] for name in names}
                self.assertEqual([one for one in slow if does_as(one, fixed)], matches(piece, web, fixed))
            images = names_in_order(web) + ["nowhere"]
            for name in names_in_order(piece):
                fixed = {name: chance.choice(images), chance.choice(names_in_order(piece)): chance.choice(images)}
                self.assertEqual([one for one in slow if does_as(one, fixed)], matches(piece, web, fixed))
        self.assertGreater(some, 50)

    def test_is_match_tells_just_those(self):
        chance = random.Random(12)
        for round_number in range(40):
            piece = some_web(chance, chance.randrange(1, 3), chance.randrange(3), "x", "kkl", "z")
            web = some_web(chance, chance.randrange(1, 4), chance.randrange(4), "xxy", "kkl")
            told = matches(piece, web)
            names = names_in_order(piece)
            rows = [[]]
            for name in names:
                rows = [row + [image] for row in rows for image in names_in_order(web)]
            good = [match for match in [dict(zip(names, row)) for row in rows] if is_match(piece, web, match)]
            self.assertEqual(sorted(lines_of(piece, good)), lines_of(piece, told))


class Large(unittest.TestCase):
    """Searches that take no time, but would not come back if they ran into dead ends."""

    def setUp(self):
        signal.signal(signal.SIGALRM, self.too_long)
        signal.alarm(20)

    def tearDown(self):
        signal.alarm(0)

    def too_long(self, number, frame):
        raise AssertionError("the search took too long")


class LargeMatches(Large):
    """As large as point 10 lets them be."""

    def test_a_chain_in_a_large_web(self):
        names = [f"p{k:02}" for k in range(40)]
        points = {name: "abcdef"[k % 6] for k, name in enumerate(names)}
        ties = {f"t{k:02}": ("n", names[k % 40], names[(k + 1 + k // 40) % 40]) for k in range(60)}
        piece = (
            {name: name for name in "abc"},
            {"s": ("n", "a", "b"), "t": ("n", "b", "c"), "u": ("n", "a", "c")},
        )
        told = matches(piece, (points, ties))
        self.assertEqual([["p00", "p01", "p02", "t00", "t01", "t40"]], lines_of(piece, told)[:1])
        self.assertEqual(4, len(told))

    def test_six_points_and_six_ties(self):
        piece = ring(list("abcdef"))
        web = ring([f"p{k}" for k in range(6)])
        told = lines_of(piece, matches(piece, web))
        self.assertEqual(6, len(told))
        self.assertEqual(["p0", "p1", "p2", "p3", "p4", "p5", "t0", "t1", "t2", "t3", "t4", "t5"], told[0])
        self.assertEqual(["p5", "p0", "p1", "p2", "p3", "p4", "t5", "t0", "t1", "t2", "t3", "t4"], told[-1])

    def test_a_kind_that_is_not_there(self):
        piece = ({"a": "x", "b": "x", "c": "x", "d": "x", "e": "x", "f": "y"}, {})
        web = ({f"p{k}": "x" for k in range(40)}, {})
        self.assertEqual([], matches(piece, web))

    def test_a_kind_that_a_fixed_point_uses_up(self):
        piece = ({"a": "x", "b": "x", "c": "x", "d": "x", "e": "y", "f": "y"}, {})
        web = ({**{f"p{k}": "x" for k in range(39)}, "q": "y"}, {})
        self.assertEqual([], matches(piece, web, {"e": "q"}))

    def test_many_points_most_of_them_fixed(self):
        piece = ({name: "x" for name in "abcdef"}, {"t": ("k", "a", "f")})
        names = [f"p{k:02}" for k in range(40)]
        web = ({name: "x" for name in names}, {f"t{k}": ("k", names[k], names[39 - k]) for k in range(39)})
        fixed = {"a": "p01", "b": "p00", "c": "p02", "e": "p03"}
        told = lines_of(piece, matches(piece, web, fixed))
        self.assertEqual([["p01", "p00", "p02", image, "p03", "p38", "t1"] for image in names[4:38] + ["p39"]], told)

    def test_many_ties_side_by_side_and_one_that_is_missing(self):
        points = {"a": "x", "b": "y"}
        sides = {f"t{k:02}": ("k", "a", "b") for k in range(59)}
        piece = (points, {"s1": ("k", "a", "b"), "s2": ("k", "a", "b"), "s3": ("k", "a", "b"), "s4": ("k", "a", "b"),
                          "s5": ("k", "a", "b"), "s6": ("k", "b", "a")})
        self.assertEqual([], matches(piece, (points, {**sides, "u": ("l", "b", "a")})))
        self.assertEqual([], matches(piece, (points, {**sides, "u": ("k", "b", "a")}), {"s6": "t00"}))
        fixed = {"s1": "t07", "s2": "t03", "s3": "t58", "s5": "t00"}
        told = lines_of(piece, matches(piece, (points, {**sides, "u": ("k", "b", "a")}), fixed))
        free = [name for name in sorted(sides) if name not in fixed.values()]
        self.assertEqual([["a", "b", "t07", "t03", "t58", image, "t00", "u"] for image in free], told)

    def test_about_two_thousand_ways(self):
        names = [f"p{k:02}" for k in range(13)]
        piece = ({"a": "x", "b": "x", "c": "x"}, {"s": ("k", "a", "c"), "t": ("k", "c", "b")})
        told = matches(piece, ring(names, "x", "k"))
        self.assertEqual(13, len(told))
        self.assertEqual(["p00", "p02", "p01", "t0", "t1"], line(piece, told[0]))

    def test_two_hundred_matches(self):
        piece = ({"a": "x", "b": "x"}, {})
        web = ({f"p{k:02}": "x" for k in range(14)}, {})
        told = lines_of(piece, matches(piece, web))
        self.assertEqual(14 * 13, len(told))
        self.assertEqual(sorted(told), told)


class Likeness(unittest.TestCase):
    def test_webs_under_other_names(self):
        names = {"a": "n", "b": "m", "c.1": "o", "t1": "f", "t2": "e", "u": "g", "v": "h", "w": "i"}
        told = likeness(RICH, renamed(RICH, names))
        self.assertEqual({**names, "t1": "e", "t2": "f"}, told)

    def test_a_web_is_like_itself(self):
        for web in (EMPTY, RICH, ring(list("abcd"))):
            self.assertEqual({name: name for name in things(web)}, likeness(web, web))

    def test_none_where_there_is_none(self):
        points, ties = RICH
        for other in [
            EMPTY, ({**points, "d": "x"}, ties), (points, {**ties, "s": ("k", "a", "b")}), ({**points, "a": "y"}, ties),
            (points, {**ties, "u": ("k", "a", "b")}), (points, {**ties, "u": ("l", "b", "c.1")}),
            (points, {**ties, "w": ("k", "c.1", "a")}), (points, {**ties, "w": ("k", "b", "b")}),
            (points, {**ties, "v": ("k", "b", "b")}),
        ]:
            with self.subTest(other):
                self.assertIsNone(likeness(RICH, other))
                self.assertIsNone(likeness(other, RICH))

    def test_a_match_that_leaves_something_over_is_none(self):
        less = (RICH[0], {name: tie for name, tie in RICH[1].items() if name != "u"})
        self.assertNotEqual([], matches(less, RICH))
        self.assertIsNone(likeness(less, RICH))
        self.assertIsNone(likeness(({"a": "x"}, {}), ({"a": "x", "b": "x"}, {})))
        self.assertIsNone(likeness(({"a": "x"}, {}), ({"a": "x"}, {"t": ("k", "a", "a")})))

    def test_one_tie_turned_round(self):
        one = ({"a": "x", "b": "x", "c": "x"}, {"s": ("k", "a", "b"), "t": ("k", "b", "c"), "u": ("k", "c", "a")})
        other = (one[0], {**one[1], "u": ("k", "a", "c")})
        self.assertIsNone(likeness(one, other))

    def test_fixed(self):
        web = ring(list("abcd"))
        other = ring(list("efgh"), mark="u")
        for fixed, first in [
            (None, "efgh"), ({}, "efgh"), ({"a": "h"}, "hefg"), ({"b": "e"}, "hefg"), ({"t1": "u0"}, "hefg"),
            ({"c": "g", "t3": "u3"}, "efgh"), ({"c": "f", "d": "g", "a": "h"}, "hefg"),
        ]:
            with self.subTest(fixed):
                told = likeness(web, other, fixed)
                self.assertEqual(list(first), [told[name] for name in "abcd"])
                self.assertTrue(is_match(web, other, told))
        for fixed in [
            {"a": "e", "b": "h"}, {"a": "e", "t0": "u1"}, {"a": "nowhere"}, {"t0": "nowhere"}, {"a": "u0"}, {"t0": "e"},
            {"a": "e", "c": "e"}, {"a": ""},
        ]:
            with self.subTest(fixed):
                with Unchanged(self, web, other, fixed):
                    self.assertIsNone(likeness(web, other, fixed))

    def test_against_a_slow_search(self):
        chance = random.Random(17)
        some = 0
        for round_number in range(200):
            web = some_web(chance, chance.randrange(5), chance.randrange(5), "xxxy", "kkkl")
            olds = names_in_order(web)
            news = [f"n{k}" for k in range(len(olds))]
            chance.shuffle(news)
            other = renamed(web, dict(zip(olds, news)))
            if chance.randrange(3) == 0:
                other = some_web(chance, len(web[0]), len(web[1]), "xxxy", "kkkl", "n")
            slow = slow_matches(web, other)
            some += len(slow) > 1
            self.assertEqual(slow[0] if slow else None, likeness(web, other))
            for name in olds:
                images = names_in_order(other)
                fixed = {name: chance.choice(images), chance.choice(olds): chance.choice(images)}
                first = [match for match in slow if does_as(match, fixed)][:1]
                self.assertEqual(first[0] if first else None, likeness(web, other, fixed))
        self.assertGreater(some, 30)


class LargeLikeness(Large):
    """Webs of 8 points and 10 ties."""

    def test_ties_side_by_side(self):
        web = ({"a": "x", "b": "x"}, {f"t{k}": ("k", "a", "b") for k in range(10)})
        other = ({"c": "x", "d": "x"}, {f"s{k}": ("k", "d", "c") for k in range(10)})
        told = likeness(web, other)
        self.assertEqual(["d", "c"] + [f"s{k}" for k in range(10)], line(web, told))
        told = likeness(web, other, {"t0": "s9", "t9": "s4"})
        self.assertEqual(["d", "c", "s9", "s0", "s1", "s2", "s3", "s5", "s6", "s7", "s8", "s4"], line(web, told))
        spoiled = (other[0], {**other[1], "s9": ("k", "c", "d")})
        self.assertIsNone(likeness(web, spoiled))

    def test_points_without_ties(self):
        web = ({name: "x" for name in "abcdefgh"}, {})
        other = ({name: "x" for name in "ijklmnop"}, {})
        self.assertEqual(dict(zip("abcdefgh", "ijklmnop")), likeness(web, other))
        self.assertEqual(dict(zip("abcdefgh", "pijklmno")), likeness(web, other, {"a": "p"}))
        self.assertIsNone(likeness(web, ({**other[0], "p": "y"}, {})))

    def test_rings(self):
        names = list("aebfcgdh")
        web = ring(names)
        self.assertIsNone(likeness(web, two_rings(list("aceg"), list("bdfh"))))
        self.assertIsNone(likeness(web, two_rings(list("ace"), list("bdfgh"))))
        self.assertIsNone(likeness(two_rings(list("ace"), list("bdfgh")), two_rings(list("abcd"), list("efgh"))))
        told = likeness(web, ring(list("ijklmnop")))
        self.assertEqual("ikmojlnp", "".join(told[name] for name in "abcdefgh"))

    def test_drawn_webs_under_other_names(self):
        chance = random.Random(23)
        for round_number in range(60):
            web = some_web(chance, 8, 10, "x", "k")
            olds = names_in_order(web)
            news = [f"n{k:02}" for k in range(18)]
            chance.shuffle(news)
            other = renamed(web, dict(zip(olds, news)))
            told = likeness(web, other)
            self.assertTrue(is_match(web, other, told))
            self.assertEqual(other, renamed(web, told))
            self.assertLessEqual(line(web, told), news)
            self.assertEqual(told, likeness(web, other, {olds[0]: told[olds[0]], olds[-1]: told[olds[-1]]}))

    def test_drawn_webs_that_are_hardly_alike(self):
        chance = random.Random(29)
        for round_number in range(60):
            web = some_web(chance, 8, 10, "x", "k")
            other = some_web(chance, 8, 10, "x", "k")
            told = likeness(web, other)
            self.assertEqual(told is None, likeness(other, web) is None)


def two_rings(names, others):
    one = ring(names)
    two = ring(others, mark="u")
    return ({**one[0], **two[0]}, {**one[1], **two[1]})


if __name__ == "__main__":
    unittest.main()
