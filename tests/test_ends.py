"""Point 27: what can be done in a web, and webs ended by rules that fall."""

import copy
import random
import unittest

from gluework.ends import choices, ended
from gluework.errors import GlueError, NoFall, NoNames
from gluework.matches import matches
from gluework.rows import gone_through
from gluework.rules import is_rule
from samples import (
    EMPTY, ODD_THINGS, RICH, Unchanged, ring, slow_choices, slow_ended, slow_weight, some_falling_rules, some_rule,
    some_web, turned_about,
)

PAIR = {"a": "x", "b": "x"}
LEAF = (PAIR, {"t": ("k", "a", "b")})
# Takes out a point with the one tie to it; the bars, a tie of kind l from its other end, and one to it.
PRUNE = (LEAF, ({"a": "x"}, {}), [])
BARRED_PRUNE = (LEAF, ({"a": "x"}, {}), [
    ({**PAIR, "c": "y"}, {**LEAF[1], "s": ("l", "a", "c")}), ({**PAIR, "c": "y"}, {**LEAF[1], "s": ("l", "c", "a")}),
])
DROP = (({"p": "x"}, {}), EMPTY, [])
SWAP = (({"p": "x"}, {}), ({"q": "y"}, {}), [])
RECAST = (LEAF, (PAIR, {"n": ("l", "a", "b")}), [])
STILL = (EMPTY, EMPTY, [])
LONG = (({"abcdefgh": "x"}, {}), ({"ijklmnop": "y", "qrstuvwx": "y"}, {"yzabcdef": ("l", "ijklmnop", "qrstuvwx")}), [])
LINE = ({"a": "x", "b": "x", "c": "x"}, {"s": ("k", "a", "b"), "t": ("k", "b", "c")})


def first(number, told):
    return 0


def last(number, told):
    return -1


def never(number, told):
    raise AssertionError("the hand is asked where nothing can be done")


class Choices(unittest.TestCase):
    def assert_choices(self, told, web, rules):
        for one in (web, turned_about(web)):
            with Unchanged(self, one, rules):
                self.assertEqual(told, choices(one, rules))

    def test_in_the_order_of_rules_and_then_of_matches(self):
        web = ({"c": "x", "a": "y", "b": "x"}, {})
        self.assert_choices([(0, {"p": "b"}), (0, {"p": "c"})], web, [SWAP])
        back = (({"p": "y"}, {}), ({"q": "x"}, {}), [])
        self.assert_choices([(0, {"p": "a"}), (1, {"p": "b"}), (1, {"p": "c"})], web, [back, SWAP])
        self.assert_choices([(0, {"p": "b"}), (0, {"p": "c"}), (1, {"p": "a"})], web, [SWAP, back])

    def test_a_rule_that_is_there_twice(self):
        web = ({"b": "x", "a": "x"}, {})
        self.assert_choices([(0, {"p": "a"}), (0, {"p": "b"}), (1, {"p": "a"}), (1, {"p": "b"})], web, [SWAP, SWAP])

    def test_kinds_of_told(self):
        told = choices(LINE, [RECAST])
        self.assertIsInstance(told, list)
        for one in told:
            self.assertIsInstance(one, tuple)
            self.assertIs(int, type(one[0]))
            self.assertIsInstance(one[1], dict)

    def test_without_what_would_leave_a_tie_loose(self):
        self.assert_choices([(0, {"a": "b", "b": "c", "t": "t"})], LINE, [PRUNE])
        self.assert_choices([], LINE, [DROP])
        self.assert_choices([(0, {"p": "d"})], ({**LINE[0], "d": "x"}, LINE[1]), [DROP])
        self.assert_choices([], ring(["a", "b", "c"], "x", "k"), [PRUNE])
        self.assert_choices([], ({"a": "x"}, {"t": ("k", "a", "a")}), [DROP])

    def test_without_what_is_barred(self):
        web = ({**LINE[0], "d": "y"}, dict(LINE[1]))
        leaf = (0, {"a": "b", "b": "c", "t": "t"})
        self.assert_choices([leaf], web, [BARRED_PRUNE])
        for tie, told in [
            (("l", "b", "d"), []), (("l", "d", "b"), []), (("l", "a", "d"), [leaf]), (("k", "b", "d"), [leaf]),
        ]:
            self.assert_choices(told, (web[0], {**web[1], "u": tie}), [BARRED_PRUNE])

    def test_a_bar_that_is_the_left_itself(self):
        self.assert_choices([], LINE, [(LEAF, LEAF, [LEAF])])
        self.assert_choices([], EMPTY, [(EMPTY, EMPTY, [EMPTY])])

    def test_edges(self):
        self.assert_choices([], EMPTY, [])
        self.assert_choices([], RICH, [])
        self.assert_choices([(0, {})], EMPTY, [STILL])
        self.assert_choices([(0, {}), (1, {})], RICH, [STILL, (EMPTY, ({"n": "x"}, {}), [])])
        self.assert_choices([], EMPTY, [SWAP, PRUNE])

    def test_new_names_are_not_asked_for(self):
        names = ["q", "n.q", "n0.q", "c.q", "x.q", "z0.q", "free.q", "a.q"]
        told = [(0, {"p": name}) for name in sorted(names)]
        self.assert_choices(told, ({name: "x" for name in names}, {}), [SWAP])

    def test_drawn_webs_and_rules(self):
        chance = random.Random(211)
        counts = {"told": 0, "left out": 0, "of several": 0}
        for round_number in range(1200):
            rules = [some_rule(chance, "xxxy", "kkkl", 2) for k in range(chance.randrange(8))]
            web = some_web(chance, chance.randrange(5), chance.randrange(5), "xxxy", "kkkl")
            told = slow_choices(web, rules)
            self.assert_choices(told, web, rules)
            counts["told"] += len(told)
            counts["left out"] += sum(len(matches(rule[0], web)) for rule in rules) - len(told)
            counts["of several"] += len({number for number, match in told}) > 1
        self.assertGreater(min(counts.values()), 150, counts)


class Ended(unittest.TestCase):
    def assert_refused(self, refusal, *handed):
        with Unchanged(self, *handed):
            with self.assertRaises(GlueError) as caught:
                ended(*handed)
        self.assertIs(refusal, type(caught.exception))

    def test_by_hand(self):
        web = ({"a": "x", "b": "x"}, {})
        told = ended(web, [SWAP], {"x": 1}, first)
        row = [(SWAP, {"p": "a"}, {"q": "n0.q"}), (SWAP, {"p": "b"}, {"q": "n1.q"})]
        self.assertEqual((row, ({"n0.q": "y", "n1.q": "y"}, {})), told)
        self.assertIsInstance(told, tuple)
        self.assertIsInstance(told[0], list)
        told = ended(web, [SWAP], {"x": 1}, last, "mark")
        row = [(SWAP, {"p": "b"}, {"q": "mark0.q"}), (SWAP, {"p": "a"}, {"q": "mark1.q"})]
        self.assertEqual((row, ({"mark0.q": "y", "mark1.q": "y"}, {})), told)

    def test_which_rule_is_done_is_picked_too(self):
        web = ({"a": "x", "b": "x"}, {"t": ("k", "a", "b")})
        rules = [RECAST, PRUNE]
        match = {"a": "a", "b": "b", "t": "t"}
        self.assertEqual(
            ([(RECAST, match, {"n": "n0.n"})], (web[0], {"n0.n": ("l", "a", "b")})),
            ended(web, rules, {"k": 1}, first),
        )
        self.assertEqual(([(PRUNE, match, {})], ({"a": "x"}, {})), ended(web, rules, {"k": 1}, last))

    def test_what_the_hand_is_handed(self):
        asked = []

        def hand(number, told):
            asked.append((number, copy.deepcopy(told)))
            return 1

        web = ({"a": "x", "b": "x", "c": "x"}, {})
        row, end = ended(web, [SWAP, DROP], {"x": 2}, hand)
        self.assertEqual([0, 1, 2], [number for number, told in asked])
        for number, told in asked:
            self.assertIs(int, type(number))
            self.assertIs(list, type(told))
        webs = gone_through(web, row)
        self.assertEqual([choices(one, [SWAP, DROP]) for one in webs[:-1]], [told for number, told in asked])
        self.assertEqual([], choices(end, [SWAP, DROP]))
        self.assertEqual(end, webs[-1])
        self.assertEqual({"n0.q": "y", "n1.q": "y"}, end[0])

    def test_each_list_is_the_hand_s_own(self):
        for hand in (first, last):
            web = ({name: "x" for name in "abcd"}, {"t": ("k", "a", "b")})
            rules = [RECAST, BARRED_PRUNE, PRUNE, DROP]
            weights = {"x": 3, "k": 2, "l": 1}
            plain = ended(web, rules, weights, hand)
            kept = []

            def spoiling(number, told):
                place = hand(number, told) % len(told)
                for earlier in kept:
                    earlier.append((0, {}))
                for rule_number, match in told:
                    match.clear()
                    match["a"] = "nothing"
                kept.append(told)
                if number == 1:
                    told.clear()
                else:
                    told.extend([(7, {})] * 5)
                return place

            with Unchanged(self, web, rules, weights):
                self.assertEqual(plain, ended(web, rules, weights, spoiling))
            self.assertGreater(len(plain[0]), 2)

    def test_the_rest_is_by_the_length_that_the_list_had(self):
        web = ({name: "x" for name in "abc"}, {})

        def hand(number, told):
            told.append(told[0])
            return 3

        row, end = ended(web, [DROP], {"x": 1}, hand)
        self.assertEqual([{"p": "a"}, {"p": "c"}, {"p": "b"}], [step[1] for step in row])

    def test_what_was_handed_in_may_be_changed_by_the_hand(self):
        def handed_in():
            web = ({name: "x" for name in "abcdef"}, {"t": ("k", "a", "b"), "s": ("k", "c", "d")})
            return web, copy.deepcopy([RECAST, BARRED_PRUNE, DROP]), {"x": 3, "k": 2, "l": 1}

        plain = ended(*handed_in(), first)
        self.assertGreater(len(plain[0]), 3)
        for spoiled_at in range(3):
            web, rules, weights = handed_in()

            def hand(number, told):
                if number == spoiled_at:
                    for rule in rules:
                        for side in (rule[0], rule[1], *rule[2]):
                            side[0].clear()
                            side[1].clear()
                        rule[2].append(EMPTY)
                    rules.clear()
                    rules.append(STILL)
                    web[0].clear()
                    web[0]["n1.n"] = "x"
                    web[1].clear()
                    weights.clear()
                    weights["l"] = 9
                return 0

            self.assertEqual(plain, ended(web, rules, weights, hand))

    def test_negative_and_great_numbers(self):
        web = ({name: "x" for name in "abcde"}, {})
        for number, name in [
            (0, "a"), (4, "e"), (5, "a"), (7, "c"), (-1, "e"), (-4, "b"), (-5, "a"), (-6, "e"), (10 ** 59, "a"),
            (10 ** 59 + 3, "d"), (-10 ** 59 + 3, "d"), (-10 ** 59 - 1, "e"),
        ]:
            told = ended(web, [DROP], {"x": 1}, lambda step, told: number)
            self.assertEqual({"p": name}, told[0][0][1], number)

    def test_nothing_can_be_done(self):
        for web, rules in [
            (EMPTY, []), (RICH, []), (EMPTY, [SWAP]), (LINE, [DROP]), (({"a": "y"}, {}), [SWAP, DROP, PRUNE]),
            (({"a": "x", "b": "x", "c": "y"}, {"t": ("k", "a", "b"), "s": ("l", "a", "c")}), [BARRED_PRUNE]),
        ]:
            with Unchanged(self, web, rules):
                self.assertEqual(([], web), ended(web, rules, {"x": 2, "k": 2}, never))

    def test_a_bar_that_is_there_at_first_and_goes(self):
        cut = (({"a": "x", "b": "y"}, {"t": ("l", "a", "b")}), ({"a": "x", "b": "y"}, {}), [])
        web = ({"a": "x", "b": "x", "c": "y"}, {"t": ("k", "a", "b"), "s": ("l", "a", "c")})
        row, end = ended(web, [BARRED_PRUNE, cut], {"x": 1, "l": 1}, first)
        self.assertEqual([cut, BARRED_PRUNE], [step[0] for step in row])
        self.assertEqual(({"a": "x", "c": "y"}, {}), end)

    def test_steps_of_two_and_three_figures(self):
        web = ({f"a{k}": "x" for k in range(40)}, {})
        down = [(({"p": kind}, {}), ({"q": other}, {}), []) for kind, other in ["xv", "vw", "wy"]]
        weights = {"x": 4, "v": 3, "w": 2, "y": 1}
        row, end = ended(web, down, weights, first)
        self.assertEqual(120, len(row))
        self.assertEqual([{"q": f"n{k}.q"} for k in range(120)], [step[2] for step in row])
        self.assertEqual({f"n{k}.q": "y" for k in range(80, 120)}, end[0])
        self.assertEqual(end, gone_through(web, row)[-1])

    def test_names_as_long_as_they_get(self):
        web = ({f"a{k}": "x" for k in range(12)}, {})
        row, end = ended(web, [LONG], {"x": 1}, last, "zzzzzz")
        self.assertEqual(
            {name: f"zzzzzz11.{name}" for name in ("ijklmnop", "qrstuvwx", "yzabcdef")}, row[-1][2],
        )
        self.assertEqual(24, len(end[0]))

    def test_marks_that_are_none(self):
        web = ({"a": "x"}, {})
        bad = [thing for thing in ODD_THINGS if thing != "a" or not isinstance(thing, str)]
        for mark in bad + ["", "abcdefg", "A", "n0", "n.", ".", " n", "n ", "n\n", "a-b", ["n"], ("n",), {"n": "n"}]:
            self.assert_refused(NoNames, web, [SWAP], {"x": 1}, never, mark)
            self.assert_refused(NoNames, web, [SWAP], {}, never, mark)
            self.assert_refused(NoNames, EMPTY, [], {}, never, mark)

    def test_marks_with_which_a_name_begins(self):
        for name, marks in [("nose", ["n", "no", "nos", "nose"]), ("n", ["n"]), ("n0.q", ["n"]), ("ab.c", ["a", "ab"])]:
            for mark in marks:
                for web in [({name: "x"}, {}), ({"zz": "x"}, {name: ("k", "zz", "zz")})]:
                    self.assert_refused(NoNames, web, [SWAP], {"x": 1}, never, mark)
                    self.assert_refused(NoNames, web, [SWAP], {}, never, mark)
                    self.assert_refused(NoNames, web, [], {}, never, mark)
        self.assert_refused(NoNames, ({"na": "y"}, {}), [], {}, never)

    def test_marks_that_stand_farther_on_in_a_name(self):
        web = ({"an": "x", "b.n": "x", "c": "x"}, {})
        told = ended(web, [SWAP], {"x": 1}, first)
        self.assertEqual({"n0.q": "y", "n1.q": "y", "n2.q": "y"}, told[1][0])
        told = ended(({"no": "x"}, {}), [SWAP], {"x": 1}, first, "nose")
        self.assertEqual({"nose0.q": "y"}, told[1][0])
        told = ended(({"no": "x"}, {}), [SWAP], {"x": 1}, first, "o")
        self.assertEqual({"o0.q": "y"}, told[1][0])

    def test_rules_that_do_not_fall(self):
        web = ({"a": "x"}, {})
        self.assert_refused(NoFall, web, [SWAP], {}, never)
        self.assert_refused(NoFall, web, [SWAP], {"x": 1, "y": 1}, never)
        self.assert_refused(NoFall, web, [SWAP], {"x": 1, "y": 2}, never)
        self.assert_refused(NoFall, web, [DROP, SWAP], {"x": 1, "y": 1}, never)
        self.assert_refused(NoFall, web, [SWAP, DROP], {"x": 1, "y": 1}, never)
        self.assert_refused(NoFall, web, [STILL], {"x": 1}, never)

    def test_a_rule_that_does_not_fall_and_cannot_be_done(self):
        self.assert_refused(NoFall, EMPTY, [SWAP], {}, never)
        self.assert_refused(NoFall, ({"a": "x"}, {}), [DROP, RECAST], {"x": 1}, never)
        self.assert_refused(NoFall, ({"a": "x"}, {}), [(EMPTY, EMPTY, [EMPTY])], {"x": 1}, never)

    def test_the_default_mark(self):
        self.assertEqual(
            ended(({"a": "x"}, {}), [SWAP], {"x": 1}, first, "n"), ended(({"a": "x"}, {}), [SWAP], {"x": 1}, first),
        )

    def test_drawn_endings(self):
        chance = random.Random(223)
        counts = {"steps": 0, "choices": 0, "with bars": 0}
        for round_number in range(600):
            web = some_web(chance, chance.randrange(2, 6), chance.randrange(5), "xxxy", "kkkl")
            weights, rules = some_falling_rules(chance, web, chance.randrange(4), 1)
            numbers = [chance.randrange(-50, 50) for k in range(60)]

            def hand(number, told):
                counts["choices"] += len(told) > 1
                return numbers[number]

            mark = chance.choice(["n", "mark", "zzzzzz"])
            with Unchanged(self, web, rules, weights):
                told = ended(turned_about(web), rules, weights, hand, mark)
            self.assertEqual(slow_ended(web, rules, hand, mark), told)
            self.assertLessEqual(len(told[0]), slow_weight(web, weights))
            counts["steps"] += len(told[0])
            counts["with bars"] += any(step[0][2] for step in told[0])
        self.assertGreater(min(counts.values()), 80, counts)

    def test_the_samples_themselves(self):
        for rule in (PRUNE, BARRED_PRUNE, DROP, SWAP, RECAST, STILL, LONG):
            self.assertTrue(is_rule(rule))


if __name__ == "__main__":
    unittest.main()
