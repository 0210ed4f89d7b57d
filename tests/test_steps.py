"""Points 12 to 15: steps, what they lead to, steps back, and the least bar."""

import itertools
import random
import unittest

from gluework import errors
from gluework.errors import Barred, GlueError, Loose, NoMatch, NoNames
from gluework.matches import is_match
from gluework.rules import is_rule
from gluework.steps import back, barred, behind, done
from gluework.webs import is_web, things
from samples import (
    EMPTY, ODD_THINGS, RICH, Unchanged, new_names, slow_barred, slow_done, slow_matches, some_rule, some_web, steps_of,
    turned_about,
)

# Keeps a and the tie l; takes out b, its loop s and the tie t; c, d and the ties m, n, o are new.
LEFT = ({"b": "x", "a": "x"}, {"t": ("k", "a", "b"), "s": ("k", "b", "b"), "l": ("l", "a", "a")})
RIGHT = (
    {"d": "z", "a": "x", "c": "y"},
    {"n": ("k", "c", "a"), "l": ("l", "a", "a"), "m": ("k", "d", "d"), "o": ("k", "a", "a")},
)
RULE = (LEFT, RIGHT, [])
WEB = (
    {"p": "x", "q": "x", "r": "x"},
    {
        "tie1": ("k", "p", "q"), "loop": ("k", "q", "q"), "eye": ("l", "p", "p"), "far": ("k", "r", "p"),
        "tie2": ("k", "p", "r"),
    },
)
MATCH = {"a": "p", "b": "q", "t": "tie1", "s": "loop", "l": "eye"}
FRESH = {"c": "n.c", "d": "n.d", "n": "n.n", "m": "n.m", "o": "n.o"}
STEP = (RULE, MATCH, FRESH)
WEB_BEHIND = (
    {"p": "x", "r": "x", "n.c": "y", "n.d": "z"},
    {
        "eye": ("l", "p", "p"), "far": ("k", "r", "p"), "tie2": ("k", "p", "r"), "n.n": ("k", "n.c", "p"),
        "n.m": ("k", "n.d", "n.d"), "n.o": ("k", "p", "p"),
    },
)

# Takes out the point a; barred where another point of the kind z stands anywhere.
LONE = ({"a": "x"}, {})
DROP = (LONE, ({"c": "y"}, {}), [({"a": "x", "o": "z"}, {})])


def with_tie(web, name, tie):
    return (web[0], {**web[1], name: tie})


def without_key(put, name):
    return {other: image for other, image in put.items() if other != name}


class Refusals(unittest.TestCase):
    def assert_refused(self, refusal, web, step):
        with Unchanged(self, web, step):
            with self.assertRaises(GlueError) as told:
                done(web, step)
        self.assertIs(refusal, type(told.exception))
        self.assertIsInstance(told.exception, ValueError)

    def assert_no_match(self, *matches):
        # With names that do not serve, too: NoMatch is told ahead of NoNames.
        for match in matches:
            for fresh in (FRESH, None, {}, {"c": "p"}):
                with self.subTest((repr(match), fresh)):
                    self.assert_refused(NoMatch, WEB, (RULE, match, fresh))

    def assert_no_names(self, *freshes):
        for fresh in freshes:
            with self.subTest(repr(fresh)):
                self.assert_refused(NoNames, WEB, (RULE, MATCH, fresh))


class Match(Refusals):
    def test_no_dict(self):
        self.assert_no_match(*ODD_THINGS, list(MATCH.items()), tuple(MATCH.items()), list(MATCH), [MATCH], set(MATCH))

    def test_a_name_too_few_or_too_many(self):
        for name in MATCH:
            self.assert_no_match(without_key(MATCH, name), {**without_key(MATCH, name), "z": MATCH[name]})
        for thing in [*MATCH.values(), *ODD_THINGS]:
            self.assert_no_match({**MATCH, "z": thing})
        self.assert_no_match({**MATCH, "c": "r"}, {**MATCH, "z": "far"}, {**MATCH, 1: "far"}, {**MATCH, None: None}, {})

    def test_values_that_are_no_texts(self):
        for name in MATCH:
            self.assert_no_match(*[{**MATCH, name: thing} for thing in ODD_THINGS])
            self.assert_no_match({**MATCH, name: [MATCH[name]]}, {**MATCH, name: {MATCH[name]: 1}})

    def test_names_that_are_none_or_of_other_things(self):
        for name in MATCH:
            others = [other for other in things(WEB) if other != MATCH[name]]
            self.assert_no_match(*[{**MATCH, name: other} for other in others + ["nowhere", "", "N", "no name"]])

    def test_two_put_to_one(self):
        rule = (({"a": "x", "b": "x"}, {}), EMPTY, [])
        web = ({"p": "x", "q": "x"}, {})
        self.assert_refused(NoMatch, web, (rule, {"a": "p", "b": "p"}, {}))
        self.assertEqual(EMPTY, done(web, (rule, {"a": "p", "b": "q"}, {})))

    def test_the_left_without_things_has_the_one_match(self):
        rule = (EMPTY, LONE, [])
        for match in [None, [], (), "", 0, False, {"a": "p"}, {"p": "p"}]:
            self.assert_refused(NoMatch, WEB, (rule, match, {"a": "n"}))
        self.assertEqual(({**WEB[0], "n": "x"}, WEB[1]), done(WEB, (rule, {}, {"a": "n"})))


class LooseTies(Refusals):
    def test_a_tie_from_outside(self):
        for tie in [("k", "r", "q"), ("k", "q", "r"), ("l", "q", "p"), ("k", "p", "q"), ("k", "q", "q")]:
            with self.subTest(tie):
                self.assert_refused(Loose, with_tie(WEB, "more", tie), STEP)

    def test_ties_at_what_is_kept_do_not_matter(self):
        for tie in [("k", "r", "p"), ("l", "p", "p"), ("k", "r", "r"), ("z", "p", "r")]:
            with self.subTest(tie):
                web = with_tie(WEB, "more", tie)
                self.assertEqual(with_tie(WEB_BEHIND, "more", tie), done(web, STEP))

    def test_a_loop_at_a_point_that_is_taken_out(self):
        looped = ({"p": "x", "q": "x"}, {"loop": ("k", "p", "p")})
        drop = (LONE, EMPTY, [])
        self.assert_refused(Loose, looped, (drop, {"a": "p"}, {}))
        self.assertEqual(({"p": "x"}, {"loop": ("k", "p", "p")}), done(looped, (drop, {"a": "q"}, {})))
        both = (({"a": "x"}, {"s": ("k", "a", "a")}), EMPTY, [])
        self.assertEqual(({"q": "x"}, {}), done(looped, (both, {"a": "p", "s": "loop"}, {})))
        twice = with_tie(looped, "loop2", ("k", "p", "p"))
        self.assert_refused(Loose, twice, (both, {"a": "p", "s": "loop"}, {}))

    def test_a_tie_between_two_points_that_are_taken_out(self):
        rule = (({"a": "x", "b": "x"}, {}), EMPTY, [])
        self.assert_refused(Loose, ({"p": "x", "q": "x"}, {"t": ("k", "p", "q")}), (rule, {"a": "p", "b": "q"}, {}))
        tied = (({"a": "x", "b": "x"}, {"t": ("k", "a", "b")}), EMPTY, [])
        self.assertEqual(
            EMPTY, done(({"p": "x", "q": "x"}, {"t": ("k", "p", "q")}), (tied, {"a": "p", "b": "q", "t": "t"}, {}))
        )

    def test_ties_side_by_side(self):
        web = ({"p": "x", "q": "x"}, {"t1": ("k", "p", "q"), "t2": ("k", "p", "q")})
        rule = (({"a": "x", "b": "x"}, {"t": ("k", "a", "b")}), LONE, [])
        self.assert_refused(Loose, web, (rule, {"a": "p", "b": "q", "t": "t1"}, {}))
        self.assert_refused(Loose, web, (rule, {"a": "p", "b": "q", "t": "t2"}, {}))


class Bars(Refusals):
    def test_a_bar_that_lies_there(self):
        web = ({"p": "x", "q": "x", "r": "z"}, {})
        self.assert_refused(Barred, web, (DROP, {"a": "p"}, {"c": "n"}))
        self.assertEqual(({"q": "x", "n": "y"}, {}), done(({"p": "x", "q": "x"}, {}), (DROP, {"a": "p"}, {"c": "n"})))

    def test_a_bar_that_lies_elsewhere(self):
        rule = (LONE, LONE, [({"a": "x"}, {"s": ("k", "a", "a")})])
        web = ({"p": "x", "q": "x"}, {"loop": ("k", "q", "q")})
        self.assertEqual(web, done(web, (rule, {"a": "p"}, {})))
        self.assert_refused(Barred, web, (rule, {"a": "q"}, {}))

    def test_a_bar_needs_things_of_its_own(self):
        rule = (LONE, LONE, [({"a": "x", "b": "x"}, {})])
        self.assertEqual(({"p": "x"}, {}), done(({"p": "x"}, {}), (rule, {"a": "p"}, {})))
        self.assert_refused(Barred, ({"p": "x", "q": "x"}, {}), (rule, {"a": "p"}, {}))

    def test_the_left_as_a_bar_bars_all(self):
        self.assert_refused(Barred, WEB, ((LEFT, RIGHT, [LEFT]), MATCH, FRESH))
        self.assert_refused(Barred, EMPTY, ((EMPTY, LONE, [EMPTY]), {}, {"a": "n"}))

    def test_any_bar_of_several(self):
        free = ({"a": "x", "o": "w"}, {})
        bar = ({"a": "x", "o": "y"}, {})
        web = ({"p": "x", "q": "y"}, {})
        for bars in ([bar, free, free], [free, bar, free], [free, free, bar], [bar, bar], [bar]):
            self.assert_refused(Barred, web, ((LONE, LONE, bars), {"a": "p"}, {}))
        self.assertEqual(web, done(web, ((LONE, LONE, [free, free, free]), {"a": "p"}, {})))


class Names(Refusals):
    def test_no_dict(self):
        self.assert_no_names(*ODD_THINGS, list(FRESH.items()), tuple(FRESH.items()), list(FRESH), [FRESH], set(FRESH))

    def test_a_name_too_few_or_too_many(self):
        for name in FRESH:
            self.assert_no_names(without_key(FRESH, name), {**without_key(FRESH, name), "z": FRESH[name]})
        # The name too many may be put to what another one is put to, or to what cannot be held in a set.
        for thing in [*FRESH.values(), *ODD_THINGS]:
            self.assert_no_names({**FRESH, "z": thing})
        self.assert_no_names({**FRESH, "z": "n.z"}, {**FRESH, "a": "p"}, {**FRESH, "b": "n.b"}, {**FRESH, 1: "n.z"}, {})

    def test_values_that_are_no_names(self):
        good = "a"
        bad = ["", "N", "1n", ".n", "n n", "n\n", "n\t", "n_", "n-", "n" * 25, " n", ("n",), ["n"], {"n": "n"}, b"n"]
        for name in FRESH:
            odd = [thing for thing in ODD_THINGS if thing != good]
            self.assert_no_names(*[{**FRESH, name: thing} for thing in odd + bad])
            for fresh_name in [good, "n" * 24, "z.", "z9..9", "m"]:
                self.assertIn(fresh_name, things(done(WEB, (RULE, MATCH, {**FRESH, name: fresh_name}))))

    def test_two_names_alike(self):
        for name, other in itertools.combinations(FRESH, 2):
            self.assert_no_names({**FRESH, name: FRESH[other]})

    def test_names_of_the_web_kept_or_taken_out(self):
        for name in FRESH:
            self.assert_no_names(*[{**FRESH, name: held} for held in things(WEB)])

    def test_no_new_things(self):
        rule = (LEFT, EMPTY, [])
        web = ({"p": "x", "q": "x"}, {"tie1": WEB[1]["tie1"], "loop": WEB[1]["loop"], "eye": WEB[1]["eye"]})
        self.assertEqual(EMPTY, done(web, (rule, MATCH, {})))
        for fresh in [None, [], (), "", 0, False, {"a": "n"}, {"c": "n"}, {None: None}]:
            self.assert_refused(NoNames, web, (rule, MATCH, fresh))


class FirstDue(Refusals):
    """The first refusal of the four that is due, whatever else is due."""

    def test_each_of_several(self):
        good = {"a": "p"}
        for bad_match, loose, bar, bad_names in itertools.product([False, True], repeat=4):
            points = {"p": "x", "q": "y", **({"r": "z"} if bar else {})}
            web = (points, {"t": ("k", "p", "q")} if loose else {})
            for match in [{"a": "q"}, {"a": "nowhere"}, None, {}] if bad_match else [good]:
                for fresh in [{"c": "p"}, {"c": "q"}, {"c": "N"}, {}, None] if bad_names else [{"c": "n"}]:
                    step = (DROP, match, fresh)
                    due = [
                        refusal for refusal, is_due
                        in [(NoMatch, bad_match), (Loose, loose), (Barred, bar), (NoNames, bad_names)] if is_due
                    ]
                    with self.subTest((web, match, fresh)):
                        if due:
                            self.assert_refused(due[0], web, step)
                        else:
                            self.assertEqual(({"q": "y", "n": "y"}, {}), done(web, step))

    def test_no_match_where_the_points_alone_would_be_loose(self):
        web = with_tie(WEB, "more", ("k", "r", "q"))
        self.assert_refused(NoMatch, web, (RULE, {**MATCH, "t": "tie2"}, FRESH))
        self.assert_refused(NoMatch, web, (RULE, {**MATCH, "s": "more"}, None))


class Done(unittest.TestCase):
    def assert_done(self, told, web, step):
        self.assertTrue(is_rule(step[0]))
        for ahead, one in [(web, step), (turned_about(web), step)]:
            with Unchanged(self, ahead, one):
                self.assertEqual(told, done(ahead, one))

    def test_cut_and_glued(self):
        self.assert_done(WEB_BEHIND, WEB, STEP)

    def test_new_ties_between_kept_and_new_points(self):
        points = {"a": "x", "b": "x"}
        new = {"c": "y", "d": "y"}
        ties = {"s": ("k", "a", "c"), "t": ("k", "c", "b"), "u": ("l", "c", "d"), "v": ("l", "b", "a")}
        step = (
            ((points, {}), ({**points, **new}, ties), []), {"a": "b", "b": "a"},
            {"c": "c", "d": "d", "s": "s", "t": "t", "u": "x1", "v": "v"},
        )
        web = ({"a": "x", "b": "x"}, {"u": ("k", "a", "b")})
        self.assert_done(
            (
                {"a": "x", "b": "x", "c": "y", "d": "y"},
                {
                    "u": ("k", "a", "b"), "s": ("k", "b", "c"), "t": ("k", "c", "a"), "x1": ("l", "c", "d"),
                    "v": ("l", "a", "b"),
                },
            ),
            web, step,
        )

    def test_loops_among_new_ties(self):
        right = ({"a": "x", "c": "y"}, {"s": ("k", "a", "a"), "t": ("k", "a", "a"), "u": ("l", "c", "c")})
        web = ({"p": "x"}, {"loop": ("k", "p", "p")})
        self.assert_done(
            (
                {"p": "x", "m": "y"},
                {"loop": ("k", "p", "p"), "m1": ("k", "p", "p"), "m2": ("k", "p", "p"), "m3": ("l", "m", "m")},
            ),
            web, ((LONE, right, []), {"a": "p"}, {"c": "m", "s": "m1", "t": "m2", "u": "m3"}),
        )

    def test_rules_that_keep_all(self):
        self.assert_done(WEB, WEB, ((LEFT, LEFT, []), MATCH, {}))
        self.assert_done(WEB, WEB, ((EMPTY, EMPTY, []), {}, {}))
        more = (LEFT[0], {**LEFT[1], "v": ("k", "b", "a")})
        self.assert_done(with_tie(WEB, "n", ("k", "q", "p")), WEB, ((LEFT, more, []), MATCH, {"v": "n"}))

    def test_rules_that_take_out_all(self):
        rest = ({"r": "x"}, {})
        web = ({**WEB[0]}, {name: WEB[1][name] for name in ["tie1", "loop", "eye"]})
        self.assert_done(rest, web, ((LEFT, EMPTY, []), MATCH, {}))
        self.assert_done(({"r": "x", "n": "x"}, {}), web, ((LEFT, ({"z": "x"}, {}), []), MATCH, {"z": "n"}))

    def test_rules_without_a_left(self):
        fresh = {"a": "n.a", "c": "n.c", "d": "n.d", "n": "n.n", "l": "n.l", "m": "n.m", "o": "n.o"}
        new = (
            {"n.a": "x", "n.c": "y", "n.d": "z"},
            {
                "n.n": ("k", "n.c", "n.a"), "n.l": ("l", "n.a", "n.a"), "n.m": ("k", "n.d", "n.d"),
                "n.o": ("k", "n.a", "n.a"),
            },
        )
        self.assert_done(new, EMPTY, ((EMPTY, RIGHT, []), {}, fresh))
        self.assert_done(({**RICH[0], **new[0]}, {**RICH[1], **new[1]}), RICH, ((EMPTY, RIGHT, []), {}, fresh))

    def test_ties_taken_out_between_kept_points(self):
        rule = (({"a": "x", "b": "x"}, {"t": ("k", "a", "b")}), ({"a": "x", "b": "x"}, {}), [])
        for tie, other in [("t1", "t2"), ("t2", "t1")]:
            told = done(RICH, (rule, {"a": "a", "b": "b", "t": tie}, {}))
            self.assertEqual((RICH[0], {name: RICH[1][name] for name in [other, "u", "v", "w"]}), told)

    def test_a_tie_turned_round(self):
        points = {"a": "x", "b": "x"}
        rule = ((points, {"t": ("k", "a", "b")}), (points, {"u": ("k", "b", "a")}), [])
        self.assert_done(
            (RICH[0], {**without_key(RICH[1], "t1"), "n": ("k", "b", "a")}),
            RICH, (rule, {"a": "a", "b": "b", "t": "t1"}, {"u": "n"}),
        )

    def test_names_in_the_rule_are_not_names_in_the_web(self):
        rule = (({"q": "x"}, {}), ({"q": "x", "p": "y"}, {"r": ("k", "q", "p")}), [])
        web = ({"p": "x", "q": "x"}, {"r": ("k", "p", "q")})
        self.assert_done(
            ({**web[0], "z": "y"}, {**web[1], "y": ("k", "p", "z")}), web, (rule, {"q": "p"}, {"p": "z", "r": "y"})
        )

    def test_a_large_web(self):
        points = {f"p{k}": "x" for k in range(40)}
        ties = {f"t{k}": ("k", f"p{k % 40}", f"p{(7 * k + 1) % 40}") for k in range(60)}
        step = ((LONE, ({"a": "x", "c": "y"}, {"s": ("k", "c", "a")}), []), {"a": "p39"}, {"c": "c", "s": "s"})
        self.assert_done(({**points, "c": "y"}, {**ties, "s": ("k", "c", "p39")}), (points, ties), step)

    def test_against_the_words_of_the_document(self):
        chance = random.Random(31)
        counts = {}
        for round_number in range(700):
            rule = some_rule(chance, bars=2)
            self.assertTrue(is_rule(rule))
            web = some_web(chance, chance.randrange(1, 5), chance.randrange(5), "xxy", "kkl")
            matches = slow_matches(rule[0], web)
            for match in chance.sample(matches, min(3, len(matches))) + [spoiled(chance, matches, web)]:
                fresh = new_names(rule, "n.")
                if chance.randrange(4) == 0:
                    fresh = spoiled(chance, [fresh], web)
                step = (rule, match, fresh)
                slow = slow_done(web, step)
                counts[slow[0]] = counts.get(slow[0], 0) + 1
                with Unchanged(self, web, step):
                    if slow[0] == "web":
                        told = done(web, step)
                        self.assertEqual(slow[1], told)
                        self.assertTrue(is_web(told))
                    else:
                        self.assertRaises(getattr(errors, slow[0]), done, web, step)
        self.assertEqual(["Barred", "Loose", "NoMatch", "NoNames", "web"], sorted(counts))
        self.assertGreater(min(counts.values()), 30)


def spoiled(chance, puts, web):
    """One of the dicts with one name put elsewhere, perhaps to a thing where it still serves."""
    put = dict(chance.choice(puts or [{}]))
    put[chance.choice(sorted(put) + ["zz"])] = chance.choice(things(web) + ["nowhere", ""])
    return put


class Behind(unittest.TestCase):
    def test_kept_and_new(self):
        self.assertEqual(
            {"a": "p", "l": "eye", "c": "n.c", "d": "n.d", "n": "n.n", "m": "n.m", "o": "n.o"}, behind(STEP)
        )

    def test_edges(self):
        self.assertEqual({}, behind(((LEFT, EMPTY, []), MATCH, {})))
        self.assertEqual(MATCH, behind(((LEFT, LEFT, [LEFT]), MATCH, {})))
        self.assertEqual({"a": "n"}, behind(((EMPTY, LONE, []), {}, {"a": "n"})))
        self.assertEqual({}, behind(((EMPTY, EMPTY, []), {}, {})))

    def test_it_is_a_match_of_right_behind_the_step(self):
        self.assertTrue(is_match(RIGHT, WEB_BEHIND, behind(STEP)))


class Back(unittest.TestCase):
    def test_by_hand(self):
        told = back((((LEFT, RIGHT, [LEFT])), MATCH, FRESH))
        self.assertEqual(((RIGHT, LEFT, []), behind(STEP), {"b": "q", "s": "loop", "t": "tie1"}), told)
        self.assertIsInstance(told, tuple)
        self.assertEqual(WEB, done(WEB_BEHIND, told))

    def test_edges(self):
        self.assertEqual(((EMPTY, LEFT, []), {}, MATCH), back(((LEFT, EMPTY, []), MATCH, {})))
        self.assertEqual(((LONE, EMPTY, []), {"a": "n"}, {}), back(((EMPTY, LONE, [EMPTY]), {}, {"a": "n"})))
        self.assertEqual(((LEFT, LEFT, []), MATCH, {}), back(((LEFT, LEFT, []), MATCH, {})))

    def test_names_of_24_signs_come_back(self):
        web = ({"p" * 24: "x"}, {})
        step = ((LONE, ({"c": "y"}, {}), []), {"a": "p" * 24}, {"c": "n" * 24})
        self.assertEqual(({"n" * 24: "y"}, {}), done(web, step))
        self.assertEqual(web, done(done(web, step), back(step)))

    def test_back_again_it_is_the_step_without_its_bars(self):
        step = ((LEFT, RIGHT, [({**LEFT[0], "o": "w"}, LEFT[1])]), MATCH, FRESH)
        self.assertEqual(WEB_BEHIND, done(WEB, step))
        self.assertEqual(((LEFT, RIGHT, []), MATCH, FRESH), back(back(step)))

    def test_drawn_steps(self):
        chance = random.Random(37)
        count = 0
        for round_number in range(500):
            rule = some_rule(chance, bars=1)
            web = some_web(chance, chance.randrange(5), chance.randrange(6), "xxy", "kkl")
            for step in steps_of(rule, web, "n.")[:4]:
                count += 1
                with Unchanged(self, step):
                    there = done(web, step)
                    self.assertTrue(is_match(rule[1], there, behind(step)))
                    self.assertEqual(web, done(there, back(step)))
                    self.assertEqual(((rule[0], rule[1], []), step[1], step[2]), back(back(step)))
                    self.assertEqual(step[1], behind(back(step)))
        self.assertGreater(count, 200)


class LeastBar(unittest.TestCase):
    def test_the_first_bar_from_0_on(self):
        web = ({"p": "x", "q": "y", "r": "z"}, {})
        y = ({"a": "x", "o": "y"}, {})
        z = ({"a": "x", "i": "z"}, {})
        w = ({"a": "x", "o": "w"}, {})
        for bars, told in [
            ([], None), ([w], None), ([w, w, w], None), ([y], (0, {"a": "p", "o": "q"})),
            ([z, y], (0, {"a": "p", "i": "r"})), ([w, z, y], (1, {"a": "p", "i": "r"})),
            ([w, w, y], (2, {"a": "p", "o": "q"})), ([LONE, y], (0, {"a": "p"})),
        ]:
            with self.subTest(bars):
                rule = (LONE, LONE, bars)
                with Unchanged(self, web, rule):
                    self.assertEqual(told, barred(web, rule, {"a": "p"}))

    def test_its_first_match_that_does_as_match_does(self):
        bar = ({"b": "x", "a": "x"}, {"t": ("k", "b", "a"), "l": ("k", "a", "b")})
        rule = (({"b": "x"}, {}), EMPTY, [bar])
        for web in (RICH, turned_about(RICH)):
            self.assertEqual((0, {"a": "a", "b": "b", "l": "t1", "t": "v"}), barred(web, rule, {"b": "b"}))
            self.assertEqual((0, {"a": "b", "b": "a", "l": "v", "t": "t1"}), barred(web, rule, {"b": "a"}))

    def test_the_bar_without_things(self):
        self.assertEqual((0, {}), barred(RICH, (EMPTY, LONE, [EMPTY]), {}))
        self.assertEqual((0, {}), barred(EMPTY, (EMPTY, LONE, [EMPTY, EMPTY]), {}))
        self.assertEqual((1, {}), barred(EMPTY, (EMPTY, LONE, [LONE, EMPTY]), {}))
        self.assertIsNone(barred(EMPTY, (EMPTY, LONE, [LONE]), {}))
        self.assertIsNone(barred(RICH, (EMPTY, EMPTY, []), {}))

    def test_where_the_step_is_loose(self):
        web = ({"p": "x", "q": "y", "r": "z"}, {"t": ("k", "p", "q")})
        self.assertRaises(Loose, done, web, (DROP, {"a": "p"}, {"c": "n"}))
        self.assertEqual((0, {"a": "p", "o": "r"}), barred(web, DROP, {"a": "p"}))
        free = ({"p": "x", "q": "y"}, {"t": ("k", "p", "q")})
        self.assertRaises(Loose, done, free, (DROP, {"a": "p"}, {"c": "n"}))
        self.assertIsNone(barred(free, DROP, {"a": "p"}))

    def test_a_bar_uses_no_thing_twice(self):
        rule = (({"a": "x", "b": "x"}, {}), EMPTY, [({"a": "x", "b": "x", "c": "x"}, {})])
        web = ({"p": "x", "q": "x"}, {})
        self.assertIsNone(barred(web, rule, {"a": "q", "b": "p"}))
        more = ({"p": "x", "q": "x", "s": "x", "r": "x"}, {})
        self.assertEqual((0, {"a": "q", "b": "p", "c": "r"}), barred(more, rule, {"a": "q", "b": "p"}))

    def test_a_bar_of_six_points_and_six_ties(self):
        names = [f"p{k:02}" for k in range(40)]
        web = ({name: "x" for name in names}, {f"t{k:02}": ("k", names[0], names[k]) for k in range(40)})
        bar = ({name: "x" for name in "abcdef"}, {f"t{name}": ("k", "a", name) for name in "abcdef"})
        told = {"a": "p00", **dict(zip("bcdef", names[1:6])), "ta": "t00"}
        told.update({f"t{name}": f"t{names[k + 1][1:]}" for k, name in enumerate("bcdef")})
        self.assertEqual((0, told), barred(web, (EMPTY, EMPTY, [bar]), {}))
        self.assertIsNone(barred(web, (LONE, EMPTY, [bar]), {"a": "p07"}))

    def test_against_a_slow_search(self):
        chance = random.Random(41)
        numbers = []
        for round_number in range(1000):
            rule = some_rule(chance, bars=3)
            web = some_web(chance, chance.randrange(2, 5), chance.randrange(5), "xxy", "kkl")
            for match in slow_matches(rule[0], web)[:3]:
                slow = slow_barred(web, rule, match)
                numbers.append(None if slow is None else slow[0])
                with Unchanged(self, web, rule, match):
                    self.assertEqual(slow, barred(web, rule, match))
        self.assertGreater(min(numbers.count(number) for number in (None, 0, 1, 2)), 5)


if __name__ == "__main__":
    unittest.main()
