"""Points 17 and 18: steps apart, and steps that change places in a row."""

import itertools
import random
import unittest

from gluework.apart import changed_places, clash
from gluework.errors import Barred, GlueError, Loose, NoMatch, NoNames
from gluework.rows import gone_through
from gluework.rules import is_rule
from gluework.steps import done
from samples import EMPTY, Unchanged, slow_clash, slow_done, some_row, some_rule, some_web, steps_of

X = ({"a": "x"}, {})
ADD = (EMPTY, ({"a": "x", "b": "y"}, {}), [])
ADD_Y = (EMPTY, ({"b": "y"}, {}), [])
DROP = (X, EMPTY, [])
KEEP = (X, X, [])
LOOP = (X, ({"a": "x"}, {"t": ("l", "a", "a")}), [])
ARROW = ({"a": "x", "b": "x"}, {"t": ("k", "a", "b")})
CUT = (ARROW, (ARROW[0], {}), [])
HOLD = (ARROW, ARROW, [])
DROP_ALL = (ARROW, EMPTY, [])
NO_Y = ({"a": "x", "o": "y"}, {})
# Keeps a point, barred where a point of the kind y is; takes a point out, barred likewise.
SHY = (X, X, [NO_Y])
SHY_DROP = (X, EMPTY, [NO_Y])
# Adds a point of the kind y where there is none.
SHY_ADD = (EMPTY, ({"b": "y"}, {}), [({"o": "y"}, {})])

WEB = ({"p": "x", "q": "x", "r": "x"}, {"t1": ("k", "p", "q"), "t2": ("k", "p", "q")})
DOTS = ({"p": "x", "q": "x", "r": "x"}, {})
ON_T1 = {"a": "p", "b": "q", "t": "t1"}
ON_T2 = {"a": "p", "b": "q", "t": "t2"}


def can_be_done_in_turn(web, row):
    """The web behind the row's steps, or None where one cannot be done."""
    for step in row:
        told = slow_done(web, step)
        if told[0] != "web":
            return None
        web = told[1]
    return web


class Clash(unittest.TestCase):
    def assert_clash(self, told, web, one, other):
        for step in (one, other):
            self.assertTrue(is_rule(step[0]))
        with Unchanged(self, web, one, other):
            self.assertEqual(told, clash(web, one, other))
        there = can_be_done_in_turn(web, [one, other])
        back = can_be_done_in_turn(web, [other, one])
        self.assertEqual(told is None, there is not None and back is not None)
        if told is None:
            self.assertEqual(there, back)
            self.assertEqual(done(done(web, one), other), done(done(web, other), one))

    def test_apart(self):
        for one, other in [
            ((ADD, {}, {"a": "m", "b": "n"}), (ADD, {}, {"a": "o", "b": "l"})),
            ((DROP, {"a": "r"}, {}), (LOOP, {"a": "p"}, {"t": "n"})),
            ((LOOP, {"a": "p"}, {"t": "m"}), (LOOP, {"a": "p"}, {"t": "n"})),
            ((CUT, ON_T1, {}), (CUT, ON_T2, {})),
            ((CUT, ON_T1, {}), (HOLD, ON_T2, {})),
            ((HOLD, ON_T1, {}), (HOLD, ON_T1, {})),
            ((SHY, {"a": "p"}, {}), (DROP, {"a": "r"}, {})),
            (((EMPTY, EMPTY, []), {}, {}), (CUT, ON_T1, {})),
        ]:
            self.assert_clash(None, WEB, one, other)
            self.assert_clash(None, WEB, other, one)

    def test_names_alone(self):
        for one, other, name in [
            ({"a": "m", "b": "n"}, {"a": "n", "b": "o"}, "n"), ({"a": "m", "b": "n"}, {"a": "m", "b": "n"}, "m"),
            ({"a": "m", "b": "n"}, {"a": "n", "b": "m"}, "m"), ({"a": "z", "b": "y"}, {"a": "y", "b": "z"}, "y"),
            ({"a": "n10", "b": "n2"}, {"a": "n2", "b": "n10"}, "n10"),
        ]:
            self.assert_clash(("names", name), WEB, (ADD, {}, one), (ADD, {}, other))

    def test_gone_alone(self):
        for web, one, other, name in [
            (DOTS, (DROP, {"a": "p"}, {}), (DROP, {"a": "p"}, {}), "p"),
            (DOTS, (DROP, {"a": "p"}, {}), (KEEP, {"a": "p"}, {}), "p"),
            (DOTS, (KEEP, {"a": "p"}, {}), (DROP, {"a": "p"}, {}), "p"),
            (DOTS, (DROP, {"a": "p"}, {}), (LOOP, {"a": "p"}, {"t": "n"}), "p"),
            (DOTS, (LOOP, {"a": "p"}, {"t": "n"}), (DROP, {"a": "p"}, {}), "p"),
            (WEB, (CUT, ON_T1, {}), (CUT, ON_T1, {}), "t1"),
            (WEB, (CUT, ON_T1, {}), (HOLD, ON_T1, {}), "t1"),
            (WEB, (HOLD, ON_T2, {}), (CUT, ON_T2, {}), "t2"),
        ]:
            with self.subTest((one, other)):
                self.assert_clash(("gone", name), web, one, other)

    def test_the_least_name_that_is_gone(self):
        web = ({"p": "x", "q": "x"}, {"t1": ("k", "p", "q")})
        self.assert_clash(("gone", "p"), web, (DROP_ALL, ON_T1, {}), (HOLD, ON_T1, {}))
        self.assert_clash(("gone", "p"), web, (HOLD, ON_T1, {}), (DROP_ALL, ON_T1, {}))
        # A tie's name may be the least, and a name that both put something to is perhaps not gone.
        early = ({"p": "x", "q": "x"}, {"c": ("k", "p", "q")})
        on_c = {"a": "p", "b": "q", "t": "c"}
        self.assert_clash(("gone", "c"), early, (DROP_ALL, on_c, {}), (HOLD, on_c, {}))
        self.assert_clash(("gone", "t1"), WEB, (CUT, ON_T1, {}), (HOLD, ON_T1, {}))
        two = (({"a": "x", "b": "x"}, {}), EMPTY, [])
        self.assert_clash(("gone", "q"), DOTS, (two, {"a": "r", "b": "q"}, {}), (two, {"a": "q", "b": "r"}, {}))
        one_of_two = (({"a": "x", "b": "x"}, {}), X, [])
        self.assert_clash(
            ("gone", "p"), DOTS, (one_of_two, {"a": "q", "b": "p"}, {}), (one_of_two, {"a": "p", "b": "q"}, {})
        )

    def test_what_only_one_puts_something_to_is_not_gone(self):
        self.assert_clash(None, DOTS, (DROP, {"a": "p"}, {}), (DROP, {"a": "q"}, {}))
        self.assert_clash(None, DOTS, (DROP, {"a": "p"}, {}), (ADD, {}, {"a": "m", "b": "n"}))

    def test_barred_alone(self):
        add = (ADD, {}, {"a": "m", "b": "n"})
        for shy in [(SHY, {"a": "p"}, {}), (SHY_DROP, {"a": "p"}, {})]:
            self.assert_clash(("barred", 0), DOTS, shy, add)
            self.assert_clash(("barred", 1), DOTS, add, shy)

    def test_barred_by_a_tie_of_what_both_keep(self):
        rule = (X, X, [({"a": "x"}, {"t": ("l", "a", "a")})])
        loop = (LOOP, {"a": "p"}, {"t": "n"})
        self.assert_clash(("barred", 0), DOTS, (rule, {"a": "p"}, {}), loop)
        self.assert_clash(("barred", 1), DOTS, loop, (rule, {"a": "p"}, {}))
        self.assert_clash(None, DOTS, loop, (rule, {"a": "q"}, {}))

    def test_both_barred(self):
        one = (SHY_ADD, {}, {"b": "m"})
        other = (SHY_ADD, {}, {"b": "n"})
        self.assert_clash(("barred", 0), DOTS, one, other)
        self.assert_clash(("barred", 0), DOTS, other, one)

    def test_names_ahead_of_gone_and_barred(self):
        swap = (X, ({"b": "y"}, {}), [])
        self.assert_clash(("names", "n"), DOTS, (swap, {"a": "p"}, {"b": "n"}), (swap, {"a": "p"}, {"b": "n"}))
        self.assert_clash(("gone", "p"), DOTS, (swap, {"a": "p"}, {"b": "n"}), (swap, {"a": "p"}, {"b": "m"}))
        self.assert_clash(("names", "n"), DOTS, (SHY_ADD, {}, {"b": "n"}), (SHY_ADD, {}, {"b": "n"}))
        shy_swap = (X, ({"b": "y"}, {}), [NO_Y])
        self.assert_clash(("names", "n"), DOTS, (shy_swap, {"a": "p"}, {"b": "n"}), (shy_swap, {"a": "p"}, {"b": "n"}))

    def test_gone_ahead_of_barred(self):
        swap = (X, ({"b": "y"}, {}), [])
        self.assert_clash(("gone", "p"), DOTS, (SHY_DROP, {"a": "p"}, {}), (swap, {"a": "p"}, {"b": "n"}))
        self.assert_clash(("gone", "p"), DOTS, (swap, {"a": "p"}, {"b": "n"}), (SHY_DROP, {"a": "p"}, {}))
        shy_swap = (X, ({"b": "y"}, {}), [NO_Y])
        one = (shy_swap, {"a": "p"}, {"b": "m"})
        self.assert_clash(("gone", "p"), DOTS, one, (shy_swap, {"a": "p"}, {"b": "n"}))
        self.assert_clash(("barred", 0), DOTS, one, (shy_swap, {"a": "q"}, {"b": "n"}))

    def test_the_same_step_twice(self):
        for step, told in [
            ((KEEP, {"a": "p"}, {}), None), ((SHY, {"a": "p"}, {}), None), (((EMPTY, EMPTY, []), {}, {}), None),
            ((DROP, {"a": "p"}, {}), ("gone", "p")), ((ADD_Y, {}, {"b": "n"}), ("names", "n")),
            ((SHY_DROP, {"a": "p"}, {}), ("gone", "p")), ((SHY_ADD, {}, {"b": "n"}), ("names", "n")),
        ]:
            self.assert_clash(told, DOTS, step, step)

    def test_refusals_the_first_ones_first(self):
        web = ({"p": "x", "q": "x", "s": "y"}, {"t": ("k", "p", "q")})
        good = (KEEP, {"a": "p"}, {})
        bad = [
            (NoMatch, (KEEP, {"a": "s"}, {})), (NoMatch, (KEEP, None, {})), (Loose, (DROP, {"a": "p"}, {})),
            (Barred, (SHY, {"a": "q"}, {})), (NoNames, (ADD_Y, {}, {"b": "s"})), (NoNames, (ADD_Y, {}, None)),
        ]
        self.assert_clash(None, web, good, good)
        for refusal, step in bad:
            self.assert_refused(refusal, web, step, good)
            self.assert_refused(refusal, web, good, step)
            for other_refusal, other in bad:
                self.assert_refused(refusal, web, step, other)

    def assert_refused(self, refusal, web, one, other):
        with self.subTest((refusal, one, other)):
            with Unchanged(self, web, one, other):
                with self.assertRaises(GlueError) as told:
                    clash(web, one, other)
            self.assertIs(refusal, type(told.exception))

    def test_drawn_steps(self):
        chance = random.Random(47)
        told = []
        for round_number in range(3000):
            one_rule = some_rule(chance, "xxxy", "kkkl", 3)
            other_rule = some_rule(chance, "xxxy", "kkkl", 3)
            web = some_web(chance, chance.randrange(1, 5), chance.randrange(3), "xxxy", "kkkl")
            ones = steps_of(one_rule, web, chance.choice(["n.", "m."]))
            others = steps_of(other_rule, web, "n.")
            pairs = list(itertools.product(ones, others))
            for one, other in chance.sample(pairs, min(6, len(pairs))):
                slow = slow_clash(web, one, other)
                told.append(slow)
                self.assert_clash(slow, web, one, other)
        kinds = [None if slow is None else slow[0] for slow in told]
        self.assertGreater(min(kinds.count(kind) for kind in (None, "names", "gone", "barred")), 10)
        self.assertIn(("barred", 0), told)
        self.assertIn(("barred", 1), told)


class ChangedPlaces(unittest.TestCase):
    def assert_changed(self, is_changed, web, row, k):
        with Unchanged(self, web, row):
            told = changed_places(web, row, k)
        if not is_changed:
            self.assertIsNone(told)
            return
        self.assertEqual(row[:k] + [row[k + 1], row[k]] + row[k + 2:], told)
        self.assertIsInstance(told, list)
        self.assertEqual(gone_through(web, row)[-1], gone_through(web, told)[-1])
        self.assertEqual(row, changed_places(web, told, k))

    def test_at_each_place(self):
        row = [
            (ADD_Y, {}, {"b": "m"}), (DROP, {"a": "r"}, {}), (LOOP, {"a": "p"}, {"t": "n"}),
            (LOOP, {"a": "p"}, {"t": "o"}),
        ]
        for k in range(3):
            self.assert_changed(True, DOTS, row, k)
            self.assert_changed(True, DOTS, row[:k + 2], k)
            self.assert_changed(True, DOTS, row[:2], 0)

    def test_the_later_one_needs_what_the_earlier_one_made(self):
        add = (ADD, {}, {"a": "m", "b": "n"})
        for later in [(KEEP, {"a": "m"}, {}), (DROP, {"a": "m"}, {}), (LOOP, {"a": "m"}, {"t": "t"})]:
            self.assert_changed(False, DOTS, [add, later], 0)
        self.assert_changed(True, DOTS, [add, (KEEP, {"a": "p"}, {})], 0)

    def test_the_earlier_one_needs_what_the_later_one_takes_out(self):
        for earlier in [(KEEP, {"a": "p"}, {}), (SHY, {"a": "p"}, {})]:
            self.assert_changed(False, DOTS, [earlier, (DROP, {"a": "p"}, {})], 0)
            self.assert_changed(True, DOTS, [earlier, (DROP, {"a": "q"}, {})], 0)

    def test_the_later_one_is_loose_ahead(self):
        row = [(CUT, ON_T1, {}), (DROP, {"a": "p"}, {})]
        self.assert_changed(False, ({"p": "x", "q": "x"}, {"t1": ("k", "p", "q")}), row, 0)

    def test_the_later_one_is_barred_ahead(self):
        drop_y = (({"b": "y"}, {}), EMPTY, [])
        self.assert_changed(False, ({"p": "x", "q": "y"}, {}), [(drop_y, {"b": "q"}, {}), (SHY, {"a": "p"}, {})], 0)

    def test_the_earlier_one_is_barred_behind(self):
        self.assert_changed(False, DOTS, [(SHY, {"a": "p"}, {}), (ADD_Y, {}, {"b": "n"})], 0)
        self.assert_changed(False, DOTS, [(SHY_DROP, {"a": "p"}, {}), (ADD_Y, {}, {"b": "n"})], 0)
        self.assert_changed(True, DOTS, [(DROP, {"a": "p"}, {}), (ADD_Y, {}, {"b": "n"})], 0)

    def test_a_name_that_the_earlier_one_made_free(self):
        self.assert_changed(False, DOTS, [(DROP, {"a": "p"}, {}), (ADD_Y, {}, {"b": "p"})], 0)

    def test_a_name_that_is_used_twice(self):
        drop_y = (({"b": "y"}, {}), EMPTY, [])
        row = [(ADD_Y, {}, {"b": "n"}), (drop_y, {"b": "n"}, {}), (ADD_Y, {}, {"b": "n"})]
        self.assert_changed(False, DOTS, row, 0)
        self.assert_changed(False, DOTS, row, 1)

    def test_the_same_step_twice(self):
        self.assert_changed(True, DOTS, [(KEEP, {"a": "p"}, {})] * 2, 0)

    def test_refused_as_the_row_is(self):
        good = [(LOOP, {"a": "p"}, {"t": "m"}), (LOOP, {"a": "q"}, {"t": "n"})]
        chained = [(ADD, {}, {"a": "m", "b": "n"}), (KEEP, {"a": "m"}, {})]
        bad = [
            (NoMatch, (KEEP, {"a": "t1"}, {})), (Loose, (DROP, {"a": "q"}, {})),
            (Barred, ((X, X, [X]), {"a": "r"}, {})), (NoNames, (ADD_Y, {}, {"b": "r"})),
        ]
        for pair in (good, chained):
            for refusal, step in bad:
                for place in range(3):
                    row = pair[:place] + [step] + pair[place:]
                    for k in range(2):
                        self.assert_refused(refusal, WEB, row, k)
                for other_refusal, other in bad:
                    self.assert_refused(refusal, WEB, pair + [step, other], 0)

    def test_refused_though_the_changed_row_could_be_gone_through(self):
        row = [(KEEP, {"a": "m"}, {}), (ADD, {}, {"a": "m", "b": "n"})]
        self.assertEqual(3, len(gone_through(DOTS, row[::-1])))
        self.assert_refused(NoMatch, DOTS, row, 0)

    def assert_refused(self, refusal, web, row, k):
        with self.subTest((refusal, row, k)):
            with Unchanged(self, web, row):
                with self.assertRaises(GlueError) as told:
                    changed_places(web, row, k)
            self.assertIs(refusal, type(told.exception))

    def test_drawn_rows(self):
        chance = random.Random(53)
        counts = {True: 0, False: 0}
        for round_number in range(400):
            rules = [some_rule(chance, bars=2) for k in range(4)]
            web = some_web(chance, chance.randrange(4), chance.randrange(3), "xxy", "kkl")
            row, webs = some_row(chance, web, rules, 3)
            for k in range(len(row) - 1):
                is_changed = can_be_done_in_turn(webs[k], [row[k + 1], row[k]]) is not None
                counts[is_changed] += 1
                self.assert_changed(is_changed, web, row, k)
        self.assertGreater(min(counts.values()), 40)


if __name__ == "__main__":
    unittest.main()
