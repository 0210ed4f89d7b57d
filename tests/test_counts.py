"""Counts, by which the search for meetings leaves out rows: none is left out that could lead to alike webs."""

import random
import unittest

from gluework.counts import all_kinds, counted, hopes, layers, move_of, moved
from samples import EMPTY, RICH, ends_of, some_rule, some_web, slow_done, steps_of

DROP = (({"a": "x"}, {}), EMPTY, [])
LOOP = (({"a": "x"}, {}), ({"a": "x"}, {"t": ("k", "a", "a")}), [])


class Counts(unittest.TestCase):
    def test_counted(self):
        kinds = all_kinds([RICH, ({"a": "k"}, {})])
        self.assertEqual([("point", "k"), ("point", "x"), ("point", "y"), ("tie", "k"), ("tie", "l")], kinds)
        self.assertEqual((0, 2, 1, 4, 1), counted(RICH, kinds))
        self.assertEqual((0, 0, 0, 0, 0), counted(EMPTY, kinds))

    def test_moved(self):
        kinds = [("point", "x"), ("tie", "k")]
        self.assertEqual((1, 3), moved((2, 3), move_of(DROP, kinds)))
        self.assertEqual((2, 4), moved((2, 3), move_of(LOOP, kinds)))
        self.assertEqual((0, 0), moved((1, 0), move_of(DROP, kinds)))
        self.assertIsNone(moved((0, 3), move_of(DROP, kinds)))
        self.assertIsNone(moved((0, 3), move_of(LOOP, kinds)))

    def test_layers_and_hopes(self):
        kinds = [("point", "x"), ("tie", "k")]
        moves = [move_of(rule, kinds) for rule in (DROP, LOOP)]
        own = layers((1, 0), moves, 2)
        self.assertEqual([[(1, 0)], [(0, 0), (1, 1)], [(0, 1), (1, 2)]], [sorted(row) for row in own])
        told = hopes(own, [[(1, 2)]], moves)
        self.assertEqual([[(1, 0)], [(1, 1)], [(1, 2)]], [sorted(row) for row in told])
        self.assertEqual([[], [], []], [sorted(row) for row in hopes(own, [[(5, 5)]], moves)])
        self.assertEqual([[(1, 0)], [(0, 0)], []], [sorted(row) for row in hopes(own, [[(0, 0)]], moves)])

    def test_no_row_that_leads_to_a_goal_is_left_out(self):
        chance = random.Random(157)
        count = 0
        for round_number in range(200):
            rules = [some_rule(chance) for k in range(3)]
            web = some_web(chance, chance.randrange(4), chance.randrange(3), "xxy", "kkl")
            ends = ends_of(web, rules, [], 2)
            kinds = all_kinds(ends + [side for rule in rules for side in rule[:2]])
            moves = sorted({move_of(rule, kinds) for rule in rules})
            own = layers(counted(web, kinds), moves, 2)
            goal = counted(chance.choice(ends), kinds)
            hopeful = hopes(own, [[goal]], moves)
            for between in [slow_done(web, step)[1] for rule in rules for step in steps_of(rule, web, "n.")]:
                self.assertIn(counted(between, kinds), own[1])
                if goal in [counted(end, kinds) for end in ends_of(between, rules, [], 1)]:
                    count += 1
                    self.assertIn(counted(between, kinds), hopeful[1])
            self.assertIn(counted(web, kinds), hopeful[0])
        self.assertGreater(count, 50)


if __name__ == "__main__":
    unittest.main()
