"""Points 19 to 21: overlaps of two webs, and how they lie in a web."""

import itertools
import random
import unittest

from gluework.errors import GlueError, NoOverlap
from gluework.matches import is_match, matches
from gluework.overlaps import lies, overlap_of, overlap_web, overlaps
from gluework.webs import is_web, things
from samples import EMPTY, ODD_THINGS, RICH, Unchanged, slow_overlaps, some_piece, some_web, turned_about

ARROW = ({"p": "x", "q": "x"}, {"s": ("k", "p", "q")})
# Its names are in part those of ARROW, for other things.
OTHER = ({"q": "x", "r": "y", "s": "x"}, {"p": ("k", "s", "q"), "t": ("k", "s", "q"), "u": ("l", "s", "s")})
TWO_LOOPS = ({"a": "x"}, {"l": ("k", "a", "a"), "m": ("k", "a", "a")})


def hard_web(chance, mark):
    """A web drawn by chance with few kinds, loops and ties side by side."""
    return some_web(chance, chance.randrange(4), chance.randrange(4), "xxxy", "kkkl", mark)


class Overlaps(unittest.TestCase):
    def test_by_hand(self):
        self.assertEqual(
            [
                [], [("p", "q")], [("p", "q"), ("q", "s")], [("p", "s")], [("p", "s"), ("q", "q")],
                [("p", "s"), ("q", "q"), ("s", "p")], [("p", "s"), ("q", "q"), ("s", "t")], [("q", "q")], [("q", "s")],
            ],
            overlaps(ARROW, OTHER),
        )

    def test_nothing_hangs_on_the_order_in_a_dict(self):
        for piece, other in [(ARROW, OTHER), (RICH, OTHER), (TWO_LOOPS, TWO_LOOPS)]:
            told = overlaps(piece, other)
            self.assertEqual(told, overlaps(turned_about(piece), other))
            self.assertEqual(told, overlaps(piece, turned_about(other)))

    def test_pieces_without_things(self):
        for piece, other in [(EMPTY, EMPTY), (EMPTY, ARROW), (ARROW, EMPTY)]:
            self.assertEqual([[]], overlaps(piece, other))

    def test_unlike_kinds(self):
        self.assertEqual([[]], overlaps(({"a": "x"}, {}), ({"a": "y"}, {})))
        self.assertEqual([[], [("a", "a")]], overlaps(({"a": "x"}, {}), ({"a": "x"}, {})))
        one = ({"a": "x"}, {"t": ("k", "a", "a")})
        self.assertEqual([[], [("a", "a")]], overlaps(one, ({"a": "x"}, {"t": ("l", "a", "a")})))
        self.assertEqual([[], [("a", "a")], [("a", "a"), ("t", "t")]], overlaps(one, one))
        # A point's kind and a tie's kind are not held against one another.
        self.assertEqual([[]], overlaps(({"a": "k"}, {}), ({"b": "x"}, {"t": ("k", "b", "b")})))

    def test_a_loop_and_a_tie_between_two_points(self):
        loop = ({"a": "x"}, {"t": ("k", "a", "a")})
        self.assertEqual([[], [("a", "p")], [("a", "q")]], overlaps(loop, ARROW))
        self.assertEqual([[], [("p", "a")], [("q", "a")]], overlaps(ARROW, loop))

    def test_ties_the_other_way_round(self):
        self.assertEqual(
            [
                [], [("p", "p")], [("p", "p"), ("q", "q")], [("p", "q")], [("p", "q"), ("q", "p")],
                [("p", "q"), ("q", "p"), ("s", "s")], [("q", "p")], [("q", "q")],
            ],
            overlaps(ARROW, (ARROW[0], {"s": ("k", "q", "p")})),
        )

    def test_several_ties_between_the_same_points(self):
        self.assertEqual(
            [
                [], [("a", "a")], [("a", "a"), ("l", "l")], [("a", "a"), ("l", "l"), ("m", "m")],
                [("a", "a"), ("l", "m")], [("a", "a"), ("l", "m"), ("m", "l")], [("a", "a"), ("m", "l")],
                [("a", "a"), ("m", "m")],
            ],
            overlaps(TWO_LOOPS, TWO_LOOPS),
        )

    def test_points_and_ties_are_told_in_one_order(self):
        piece = ({"b": "x"}, {"a": ("k", "b", "b")})
        self.assertEqual([[], [("a", "a"), ("b", "b")], [("b", "b")]], overlaps(piece, piece))

    def test_all_points_of_one_kind(self):
        piece = ({name: "x" for name in "abcd"}, {})
        other = ({name: "x" for name in "mnop"}, {})
        told = overlaps(piece, other)
        self.assertEqual(209, len(told))
        self.assertEqual(slow_overlaps(piece, other), told)

    def test_as_many_overlaps_as_there_can_be(self):
        piece = ({name: "x" for name in "abcd"}, {f"t{k}": ("k", "a", "a") for k in range(4)})
        told = overlaps(piece, piece)
        # Where a is paired with itself the other points can be paired in 34 ways and the ties in 209; else in 175.
        self.assertEqual(34 * 209 + 175, len(told))
        self.assertEqual(sorted(told), told)
        self.assertEqual(slow_overlaps(piece, piece), told)

    def test_pieces_of_four_points_and_four_ties(self):
        chance = random.Random(59)
        for round_number in range(4):
            piece = some_web(chance, 4, 4, "xxy", "k", "a")
            other = some_web(chance, 4, 4, "xxy", "k", "b")
            self.assertEqual(slow_overlaps(piece, other), overlaps(piece, other))

    def test_against_a_slow_search(self):
        chance = random.Random(61)
        count = 0
        for round_number in range(400):
            piece = hard_web(chance, "")
            other = piece if round_number % 5 == 0 else hard_web(chance, chance.choice(["", "m"]))
            slow = slow_overlaps(piece, other)
            count += len(slow) > 5
            with Unchanged(self, piece, other):
                told = overlaps(piece, other)
            self.assertEqual(slow, told)
            self.assertEqual([], told[0])
            self.assertTrue(all(one < two for one, two in zip(told, told[1:])))
        self.assertGreater(count, 80)

    def test_changed_about_they_are_the_overlaps_of_both_changed_about(self):
        chance = random.Random(67)
        for round_number in range(50):
            piece = hard_web(chance, "")
            other = hard_web(chance, "")
            turned = sorted(sorted((two, one) for one, two in pairs) for pairs in overlaps(piece, other))
            self.assertEqual(turned, overlaps(other, piece))


class OverlapWeb(unittest.TestCase):
    def test_by_hand(self):
        pairs = [("p", "s"), ("q", "q"), ("s", "t")]
        with Unchanged(self, ARROW, OTHER, pairs):
            told = overlap_web(ARROW, OTHER, pairs)
        self.assertEqual(
            (
                (
                    {"a.p": "x", "a.q": "x", "b.r": "y"},
                    {"a.s": ("k", "a.p", "a.q"), "b.p": ("k", "a.p", "a.q"), "b.u": ("l", "a.p", "a.p")},
                ),
                {"p": "a.p", "q": "a.q", "s": "a.s"},
                {"q": "a.q", "r": "b.r", "s": "a.p", "p": "b.p", "t": "a.s", "u": "b.u"},
            ),
            told,
        )
        self.assertIsInstance(told, tuple)

    def test_nothing_paired(self):
        web, match, other_match = overlap_web(ARROW, ARROW, [])
        self.assertEqual(
            (
                {"a.p": "x", "a.q": "x", "b.p": "x", "b.q": "x"},
                {"a.s": ("k", "a.p", "a.q"), "b.s": ("k", "b.p", "b.q")},
            ),
            web,
        )
        self.assertEqual({"p": "a.p", "q": "a.q", "s": "a.s"}, match)
        self.assertEqual({"p": "b.p", "q": "b.q", "s": "b.s"}, other_match)

    def test_all_paired(self):
        web, match, other_match = overlap_web(ARROW, ARROW, [("p", "p"), ("q", "q"), ("s", "s")])
        self.assertEqual(({"a.p": "x", "a.q": "x"}, {"a.s": ("k", "a.p", "a.q")}), web)
        self.assertEqual(match, other_match)
        self.assertIsNot(match, other_match)

    def test_a_tie_with_one_end_paired(self):
        web, match, other_match = overlap_web(ARROW, ARROW, [("q", "p")])
        self.assertEqual({"a.s": ("k", "a.p", "a.q"), "b.s": ("k", "a.q", "b.q")}, web[1])
        self.assertEqual({"p": "a.q", "q": "b.q", "s": "b.s"}, other_match)

    def test_pieces_without_things(self):
        self.assertEqual((EMPTY, {}, {}), overlap_web(EMPTY, EMPTY, []))
        self.assertEqual((({"a.a": "x"}, {}), {"a": "a.a"}, {}), overlap_web(({"a": "x"}, {}), EMPTY, []))
        self.assertEqual((({"b.a": "x"}, {}), {}, {"a": "b.a"}), overlap_web(EMPTY, ({"a": "x"}, {}), []))

    def test_names_of_22_signs_and_names_with_marks_of_their_own(self):
        piece = ({"a" * 22: "x", "b.p": "x"}, {})
        other = ({"b" * 22: "x", "a.b.p": "x", "p": "x"}, {})
        web, match, other_match = overlap_web(piece, other, [("a" * 22, "b" * 22)])
        self.assertTrue(is_web(web))
        self.assertEqual(({"a." + "a" * 22: "x", "a.b.p": "x", "b.a.b.p": "x", "b.p": "x"}, {}), web)
        self.assertEqual({"b" * 22: "a." + "a" * 22, "a.b.p": "b.a.b.p", "p": "b.p"}, other_match)

    def test_both_have_their_matches_in_it(self):
        chance = random.Random(71)
        for round_number in range(80):
            piece = hard_web(chance, "")
            other = hard_web(chance, chance.choice(["", "m"]))
            for pairs in overlaps(piece, other):
                with Unchanged(self, piece, other, pairs):
                    web, match, other_match = overlap_web(piece, other, pairs)
                self.assertTrue(is_web(web))
                self.assertTrue(is_match(piece, web, match))
                self.assertTrue(is_match(other, web, other_match))
                self.assertEqual({name: f"a.{name}" for name in things(piece)}, match)
                self.assertEqual(pairs, overlap_of(match, other_match))
                self.assertEqual(sorted(things(web)), sorted(set(match.values()) | set(other_match.values())))
                paired = {image: name for name, image in pairs}
                told = {name: f"a.{paired[name]}" if name in paired else f"b.{name}" for name in things(other)}
                self.assertEqual(told, other_match)


class NoOverlaps(unittest.TestCase):
    def assert_none(self, *lists, piece=ARROW, other=OTHER):
        for pairs in lists:
            with self.subTest(repr(pairs)):
                with Unchanged(self, piece, other, pairs):
                    with self.assertRaises(GlueError) as told:
                        overlap_web(piece, other, pairs)
                self.assertIs(NoOverlap, type(told.exception))
                self.assertIsInstance(told.exception, ValueError)

    def test_no_list(self):
        self.assert_none(*[thing for thing in ODD_THINGS if thing != []])
        self.assert_none((), (("p", "q"),), {"p": "q"}, {("p", "q")}, "pq", None, ("p", "q"))
        for thing in ODD_THINGS:
            if thing != []:
                self.assert_none(thing, piece=EMPTY, other=EMPTY)

    def test_lists_for_tuples_and_tuples_of_another_length(self):
        self.assert_none(
            [["p", "q"]], [("p", "s"), ["q", "q"]], ["pq"], ["p", "q"], [("p",)], [("p", "q", "s")], [()],
            [("p", "q", "q")], [("p", "q"), ()], [[]], [{"p": "q"}], [{"p", "q"}], [frozenset("pq")],
        )

    def test_other_things_within(self):
        self.assert_none(*[[thing] for thing in ODD_THINGS])
        self.assert_none(*[[("p", "s"), thing] for thing in ODD_THINGS])
        self.assert_none(*[[thing, ("p", "s")] for thing in ODD_THINGS])
        self.assert_none(*[[("p", thing)] for thing in ODD_THINGS])
        self.assert_none(*[[(thing, "q")] for thing in ODD_THINGS])
        self.assert_none(*[[(thing, thing)] for thing in ODD_THINGS])
        self.assert_none([(["p"], "q")], [("p", ["q"])], [("p", {"q": "q"})], [({"p": 1}, "q")], [(1, 2), ("p", "q")])

    def test_names_of_no_thing(self):
        self.assert_none([("p", "nowhere")], [("nowhere", "q")], [("nowhere", "nowhere")], [("", "")], [("p", "")])
        self.assert_none([("a.p", "b.q")], [("t", "t")], [("r", "r")], [("u", "q")])

    def test_a_name_twice(self):
        self.assert_none(
            [("p", "q"), ("p", "s")], [("p", "q"), ("q", "q")], [("p", "q"), ("p", "q")],
            [("p", "s"), ("q", "q"), ("s", "p"), ("s", "t")], [("p", "s"), ("q", "q"), ("s", "t"), ("s", "t")],
        )
        both = (ARROW[0], {"s": ("k", "p", "q"), "t": ("k", "p", "q")})
        one = (ARROW[0], {"u": ("k", "p", "q")})
        self.assert_none([("p", "p"), ("q", "q"), ("s", "u"), ("t", "u")], piece=both, other=one)

    def test_unlike_kinds(self):
        self.assert_none([("p", "r")], [("q", "r")], [("p", "q"), ("q", "r")])
        loop = ({"s": "x"}, {"t": ("k", "s", "s")})
        self.assert_none([("s", "s"), ("t", "u")], piece=loop)

    def test_a_point_with_a_tie(self):
        self.assert_none(
            [("p", "p")], [("p", "t")], [("s", "q")], [("s", "s")], [("p", "q"), ("s", "s")],
            [("p", "s"), ("q", "q"), ("s", "r")],
        )
        # The kinds are the same text.
        self.assert_none([("a", "t")], piece=({"a": "k"}, {}), other=({"b": "k"}, {"t": ("k", "b", "b")}))
        self.assert_none(
            [("b", "c"), ("t", "a")], piece=({"b": "k"}, {"t": ("k", "b", "b")}), other=({"a": "k", "c": "k"}, {})
        )

    def test_ties_whose_ends_are_not_paired(self):
        self.assert_none(
            [("s", "t")], [("p", "s"), ("s", "t")], [("q", "q"), ("s", "t")], [("p", "q"), ("q", "s"), ("s", "t")],
            [("p", "q"), ("q", "s"), ("s", "p")],
        )
        loop = ({"s": "x"}, {"t": ("k", "s", "s")})
        self.assert_none([("s", "s"), ("t", "t")], [("s", "q"), ("t", "p")], piece=loop)
        self.assert_none([("p", "s"), ("q", "q"), ("s", "t")], piece=ARROW, other=loop)

    def test_the_wrong_order(self):
        self.assert_none([("q", "q"), ("p", "s")], [("p", "s"), ("s", "t"), ("q", "q")])
        self.assert_none([("s", "t"), ("q", "q"), ("p", "s")])
        for pairs in overlaps(RICH, RICH)[::7]:
            for row in itertools.islice(itertools.permutations(pairs), 1, 8):
                self.assert_none(list(row), piece=RICH, other=RICH)

    def test_the_pairs_changed_about(self):
        self.assert_none([("q", "q"), ("s", "p"), ("t", "s")])
        self.assertEqual(3, len(overlap_web(OTHER, ARROW, [("q", "q"), ("s", "p"), ("t", "s")])))

    def test_just_the_overlaps_are_none_of_these(self):
        piece = ({"a": "x", "b": "x"}, {"t": ("k", "a", "b")})
        other = ({"a": "x", "b": "x"}, {"t": ("k", "b", "a"), "u": ("k", "a", "a")})
        told = overlaps(piece, other)
        pairs = list(itertools.product(things(piece), things(other)))
        for count in range(4):
            for row in itertools.product(pairs, repeat=count):
                if list(row) in told:
                    self.assertEqual(3, len(overlap_web(piece, other, list(row))))
                else:
                    self.assertRaises(NoOverlap, overlap_web, piece, other, list(row))


class Lies(unittest.TestCase):
    def test_by_hand(self):
        web = ({"a": "x", "b": "x", "c": "y"}, {"t1": ("k", "a", "b"), "t2": ("k", "a", "b"), "l": ("l", "a", "a")})
        match = {"p": "a", "q": "b", "s": "t1"}
        other_match = {"s": "a", "q": "b", "r": "c", "p": "t1", "t": "t2", "u": "l"}
        self.assertTrue(is_match(ARROW, web, match))
        self.assertTrue(is_match(OTHER, web, other_match))
        pairs = [("p", "s"), ("q", "q"), ("s", "p")]
        with Unchanged(self, match, other_match):
            self.assertEqual(pairs, overlap_of(match, other_match))
        with Unchanged(self, ARROW, OTHER, pairs, match, other_match):
            told = lies(ARROW, OTHER, pairs, match, other_match)
        self.assertEqual({"a.p": "a", "a.q": "b", "a.s": "t1", "b.r": "c", "b.t": "t2", "b.u": "l"}, told)

    def test_matches_that_have_nothing_in_common(self):
        self.assertEqual([], overlap_of({"p": "a"}, {"p": "b"}))
        self.assertEqual([], overlap_of({}, {}))
        self.assertEqual([], overlap_of({"p": "a"}, {}))
        self.assertEqual([], overlap_of({}, {"p": "a"}))
        point = ({"p": "x"}, {})
        self.assertEqual({"a.p": "a", "b.p": "b"}, lies(point, point, [], {"p": "a"}, {"p": "b"}))
        self.assertEqual({}, lies(EMPTY, EMPTY, [], {}, {}))
        self.assertEqual({"b.p": "b"}, lies(EMPTY, point, [], {}, {"p": "b"}))

    def test_a_match_and_itself(self):
        match = {"p": "a", "q": "b", "s": "t1"}
        pairs = [("p", "p"), ("q", "q"), ("s", "s")]
        self.assertEqual(pairs, overlap_of(match, match))
        self.assertEqual({"a.p": "a", "a.q": "b", "a.s": "t1"}, lies(ARROW, ARROW, pairs, match, match))

    def test_the_overlap_is_told_in_order(self):
        self.assertEqual(
            [("a", "z"), ("b", "y"), ("c", "x")],
            overlap_of({"c": "m", "b": "n", "a": "o"}, {"x": "m", "z": "o", "w": "l", "y": "n"}),
        )

    def test_drawn_pieces_found_in_a_web(self):
        chance = random.Random(73)
        count = 0
        for round_number in range(120):
            web = some_web(chance, chance.randrange(1, 5), chance.randrange(6), "xxxy", "kkkl")
            piece = some_piece(chance, web, "z")
            other = some_piece(chance, web, chance.choice("zy"))
            told = overlaps(piece, other)
            for match, other_match in itertools.product(matches(piece, web)[:4], matches(other, web)[-4:]):
                count += 1
                pairs = overlap_of(match, other_match)
                self.assertEqual(1, told.count(pairs))
                self.assert_lies(web, piece, other, pairs, match, other_match)
        self.assertGreater(count, 300)

    def assert_lies(self, web, piece, other, pairs, match, other_match):
        """It is the one match of the overlap web by which both matches come out."""
        over, first, second = overlap_web(piece, other, pairs)
        lie = lies(piece, other, pairs, match, other_match)
        self.assertTrue(is_match(over, web, lie))
        self.assertEqual(match, {name: lie[image] for name, image in first.items()})
        self.assertEqual(other_match, {name: lie[image] for name, image in second.items()})
        by_which_both = [
            one for one in matches(over, web)
            if match == {name: one[image] for name, image in first.items()}
            and other_match == {name: one[image] for name, image in second.items()}
        ]
        self.assertEqual([lie], by_which_both)


if __name__ == "__main__":
    unittest.main()
