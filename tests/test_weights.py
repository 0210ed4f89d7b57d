"""Point 26: what webs weigh, and rules that fall."""

import random
import unittest

from gluework.steps import done
from gluework.weights import falls, weighed
from samples import EMPTY, RICH, Unchanged, some_rule, some_web, steps_of, turned_about

HUGE = 10 ** 60 - 1


class Weighed(unittest.TestCase):
    def assert_weighed(self, told, web, weights):
        for one in (web, turned_about(web)):
            with Unchanged(self, one, weights):
                found = weighed(one, weights)
            self.assertEqual(told, found)
            self.assertIs(int, type(found))

    def test_points_and_ties_both(self):
        for weights, told in [
            ({"x": 1}, 2), ({"y": 1}, 1), ({"k": 1}, 4), ({"l": 1}, 1), ({"x": 1, "y": 1, "k": 1, "l": 1}, 8),
            ({"x": 10, "y": 200, "k": 3000, "l": 50000}, 62220), ({"x": 0, "y": 0, "k": 0, "l": 7}, 7),
        ]:
            self.assert_weighed(told, RICH, weights)

    def test_kinds_that_are_left_out(self):
        self.assert_weighed(0, RICH, {})
        self.assert_weighed(0, RICH, {"xx": 5, "kx": 7, "z": HUGE})
        self.assert_weighed(9, RICH, {"y": 9, "z": 4})

    def test_names_weigh_nothing(self):
        self.assert_weighed(0, RICH, {"a": 1, "b": 1, "u": 1, "v": 1, "w": 1})

    def test_a_kind_of_points_and_of_ties(self):
        self.assert_weighed(3, ({"a": "k"}, {"t": ("k", "a", "a"), "u": ("k", "a", "a")}), {"k": 1})

    def test_the_web_without_things(self):
        self.assert_weighed(0, EMPTY, {})
        self.assert_weighed(0, EMPTY, {"x": 3})

    def test_weights_of_sixty_figures(self):
        self.assert_weighed(2 * HUGE + 4 * (HUGE - 1) + 1, RICH, {"x": HUGE, "k": HUGE - 1, "l": 1})
        many = ({f"p{k}": "x" for k in range(40)}, {f"t{k}": ("k", "p0", "p1") for k in range(60)})
        self.assert_weighed(100 * HUGE, many, {"x": HUGE, "k": HUGE})

    def test_drawn_webs(self):
        chance = random.Random(97)
        for round_number in range(100):
            web = some_web(chance, chance.randrange(9), chance.randrange(9))
            weights = {kind: chance.choice([0, 1, 5, HUGE]) for kind in "xykl" if chance.randrange(3)}
            told = 0
            for kind in [*web[0].values(), *(tie[0] for tie in web[1].values())]:
                if kind in weights:
                    told += weights[kind]
            self.assert_weighed(told, web, weights)


class Falls(unittest.TestCase):
    def assert_falls(self, told, rule, weights):
        with Unchanged(self, rule, weights):
            self.assertIs(told, falls(rule, weights))

    def test_lighter_the_same_and_heavier(self):
        rule = (({"a": "x"}, {}), ({"b": "y"}, {}), [])
        self.assert_falls(True, rule, {"x": 2, "y": 1})
        self.assert_falls(True, rule, {"x": 1})
        self.assert_falls(False, rule, {"x": 1, "y": 1})
        self.assert_falls(False, rule, {"x": 1, "y": 2})
        self.assert_falls(False, rule, {"y": 1})
        self.assert_falls(False, rule, {})
        self.assert_falls(False, rule, {"x": 0, "y": 0})

    def test_ties_count(self):
        left = ({"a": "x"}, {"t": ("k", "a", "a")})
        self.assert_falls(True, (left, ({"a": "x"}, {}), []), {"k": 1})
        self.assert_falls(False, (left, ({"a": "x"}, {}), []), {"x": 1})
        self.assert_falls(False, (left, ({"a": "x"}, {"u": ("k", "a", "a")}), []), {"k": 1, "x": 1})
        self.assert_falls(True, (left, ({"a": "x"}, {"u": ("l", "a", "a")}), []), {"k": 2, "l": 1})

    def test_what_is_kept_weighs_on_both_sides(self):
        left = ({"a": "x", "b": "x"}, {})
        self.assert_falls(True, (left, ({"a": "x"}, {}), []), {"x": 1})
        self.assert_falls(False, (left, left, []), {"x": 1})

    def test_empty_sides(self):
        self.assert_falls(False, (EMPTY, EMPTY, []), {"x": 1})
        self.assert_falls(True, (({"a": "x"}, {}), EMPTY, []), {"x": 1})
        self.assert_falls(False, (({"a": "x"}, {}), EMPTY, []), {"x": 0})
        self.assert_falls(False, (EMPTY, ({"a": "x"}, {}), []), {"x": 1})

    def test_bars_weigh_nothing(self):
        bar = ({"a": "x", "b": "y"}, {})
        self.assert_falls(True, (({"a": "x"}, {}), EMPTY, [bar]), {"x": 1, "y": HUGE})
        self.assert_falls(False, (({"a": "x"}, {}), ({"a": "x"}, {}), [bar]), {"x": 1, "y": HUGE})

    def test_weights_of_sixty_figures(self):
        rule = (({"a": "x"}, {}), ({"b": "y"}, {}), [])
        self.assert_falls(True, rule, {"x": HUGE, "y": HUGE - 1})
        self.assert_falls(False, rule, {"x": HUGE, "y": HUGE})
        self.assert_falls(False, rule, {"x": HUGE - 1, "y": HUGE})

    def test_each_step_makes_a_web_lighter_by_as_much(self):
        chance = random.Random(101)
        counts = {True: 0, False: 0}
        for round_number in range(3000):
            rule = some_rule(chance, "xxxy", "kkkl", 1)
            weights = {kind: chance.choice([0, 1, 2, HUGE]) for kind in "xykl" if chance.randrange(4)}
            web = some_web(chance, chance.randrange(1, 5), chance.randrange(4), "xxxy", "kkkl")
            less = weighed(rule[0], weights) - weighed(rule[1], weights)
            self.assert_falls(less > 0, rule, weights)
            for step in steps_of(rule, web, "n."):
                counts[less > 0] += 1
                self.assertEqual(weighed(web, weights) - less, weighed(done(web, step), weights))
        self.assertGreater(min(counts.values()), 40)


if __name__ == "__main__":
    unittest.main()
