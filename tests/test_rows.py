"""Point 16: rows of steps, and rows back."""

import random
import unittest

from gluework.errors import Barred, GlueError, Loose, NoMatch, NoNames
from gluework.rows import back_row, gone_through
from gluework.steps import back
from samples import EMPTY, RICH, Unchanged, some_row, some_rule, some_web

POINT = ({"a": "x"}, {})
ADD = (EMPTY, POINT, [])
DROP = (POINT, EMPTY, [])
TIE = (({"a": "x", "b": "x"}, {}), ({"a": "x", "b": "x"}, {"t": ("k", "a", "b")}), [])
# A loop where there is none yet.
LOOP = (POINT, ({"a": "x"}, {"t": ("l", "a", "a")}), [({"a": "x"}, {"t": ("l", "a", "a")})])

ROW = [
    (ADD, {}, {"a": "p"}), (ADD, {}, {"a": "q"}), (TIE, {"a": "p", "b": "q"}, {"t": "t1"}),
    (LOOP, {"a": "q"}, {"t": "t2"}),
]
WEBS = [
    ({"r": "x"}, {}), ({"r": "x", "p": "x"}, {}), ({"r": "x", "p": "x", "q": "x"}, {}),
    ({"r": "x", "p": "x", "q": "x"}, {"t1": ("k", "p", "q")}),
    ({"r": "x", "p": "x", "q": "x"}, {"t1": ("k", "p", "q"), "t2": ("l", "q", "q")}),
]

# Steps that cannot be done behind any part of ROW, or not behind all of it.
NEVER = [
    (NoMatch, (DROP, {"a": "nowhere"}, {})), (NoMatch, (ADD, None, {"a": "n"})),
    (Barred, ((EMPTY, POINT, [POINT]), {}, {"a": "n"})), (NoNames, (ADD, {}, {"a": "r"})), (NoNames, (ADD, {}, None)),
]


class GoneThrough(unittest.TestCase):
    def test_a_row_without_steps(self):
        for web in (EMPTY, RICH):
            told = gone_through(web, [])
            self.assertEqual([web], told)
            for named, own in zip(told[0], web):
                self.assertIsNot(own, named)

    def test_rows_of_some_steps(self):
        for count in range(len(ROW) + 1):
            with Unchanged(self, WEBS[0], ROW):
                self.assertEqual(WEBS[:count + 1], gone_through(WEBS[0], ROW[:count]))

    def test_webs_that_are_the_same_are_not_one_object(self):
        still = (EMPTY, EMPTY, [])
        told = gone_through(RICH, [(still, {}, {})] * 3)
        self.assertEqual([RICH] * 4, told)
        held = [named for web in told for named in web] + list(RICH)
        self.assertEqual(len(held), len({id(named) for named in held}))

    def test_a_name_is_free_behind_the_step_that_took_it_out(self):
        row = [(DROP, {"a": "r"}, {}), (ADD, {}, {"a": "r"}), (DROP, {"a": "r"}, {})]
        self.assertEqual([WEBS[0], EMPTY, WEBS[0], EMPTY], gone_through(WEBS[0], row))

    def test_refused_as_the_first_step_that_cannot_be_done(self):
        for place in range(len(ROW) + 1):
            for refusal, step in NEVER:
                for later, other in NEVER:
                    row = ROW[:place] + [step] + ROW[place:] + [other]
                    with self.subTest((place, refusal, later)):
                        with Unchanged(self, WEBS[0], row):
                            with self.assertRaises(GlueError) as told:
                                gone_through(WEBS[0], row)
                        self.assertIs(refusal, type(told.exception))

    def test_a_step_that_can_be_done_at_first_but_not_there(self):
        for refusal, row in [
            (NoMatch, [(DROP, {"a": "r"}, {}), (DROP, {"a": "r"}, {})]),
            (Loose, [(ADD, {}, {"a": "p"}), (TIE, {"a": "p", "b": "r"}, {"t": "t"}), (DROP, {"a": "r"}, {})]),
            (Barred, [(LOOP, {"a": "r"}, {"t": "t1"}), (LOOP, {"a": "r"}, {"t": "t2"})]),
            (NoNames, [(ADD, {}, {"a": "p"}), (ADD, {}, {"a": "p"})]),
        ]:
            with self.subTest(refusal):
                self.assertEqual(len(row), len(gone_through(WEBS[0], row[:-1])))
                self.assertRaises(refusal, gone_through, WEBS[0], row)

    def test_a_step_that_can_be_done_there_but_not_at_first(self):
        self.assertRaises(NoMatch, gone_through, WEBS[0], ROW[2:3])
        self.assertRaises(NoMatch, gone_through, WEBS[0], ROW[3:])

    def test_a_long_row(self):
        row = [(ADD, {}, {"a": "p"}), (DROP, {"a": "p"}, {})] * 100
        self.assertEqual([WEBS[0], WEBS[1]] * 100 + [WEBS[0]], gone_through(WEBS[0], row))


class BackRow(unittest.TestCase):
    def test_by_hand(self):
        with Unchanged(self, ROW):
            told = back_row(ROW)
        self.assertEqual([back(ROW[3]), back(ROW[2]), back(ROW[1]), back(ROW[0])], told)
        self.assertEqual(((LOOP[1], LOOP[0], []), {"a": "q", "t": "t2"}, {}), told[0])
        self.assertEqual((DROP, {"a": "p"}, {}), told[3])
        self.assertEqual([], back_row([]))

    def test_by_the_same_webs(self):
        self.assertEqual(WEBS[::-1], gone_through(WEBS[-1], back_row(ROW)))
        self.assertEqual([RICH], gone_through(RICH, back_row([])))

    def test_drawn_rows(self):
        chance = random.Random(43)
        lengths = []
        for round_number in range(150):
            rules = [some_rule(chance, bars=1) for k in range(4)]
            web = some_web(chance, chance.randrange(4), chance.randrange(3), "xxy", "kkl")
            row, webs = some_row(chance, web, rules, chance.randrange(5))
            lengths.append(len(row))
            with Unchanged(self, web, row):
                self.assertEqual(webs, gone_through(web, row))
                told = back_row(row)
                self.assertEqual(webs[::-1], gone_through(webs[-1], told))
            bare = [((rule[0], rule[1], []), match, fresh) for rule, match, fresh in row]
            self.assertEqual(bare, back_row(told))
        self.assertGreater(min(lengths.count(length) for length in range(4)), 5)


if __name__ == "__main__":
    unittest.main()
