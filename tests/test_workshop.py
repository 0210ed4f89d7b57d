"""Point 28: a workshop, its deeds, undone and done again."""

import copy
import random
import unittest

from gluework.ends import choices
from gluework.errors import Barred, GlueError, Loose, NoDeed, NoMatch, NoNames, NoRule
from gluework.rows import back_row, gone_through
from gluework.rules import is_rule
from gluework.workshop import Workshop
from samples import (
    EMPTY, ODD_THINGS, RICH, Unchanged, new_names, slow_choices, slow_done, slow_matches, some_rule, some_web,
)

PAIR = {"a": "x", "b": "x"}
LEAF = (PAIR, {"t": ("k", "a", "b")})
SWAP = (({"p": "x"}, {}), ({"q": "y"}, {}), [])
BACK = (({"p": "y"}, {}), ({"q": "x"}, {}), [])
GROW = (({"p": "x"}, {}), ({"p": "x", "q": "x"}, {"t": ("k", "p", "q")}), [])
PRUNE = (LEAF, ({"a": "x"}, {}), [])
# No second tie may lead the same way.
ONCE = (({"a": "x", "b": "y"}, {}), ({"a": "x", "b": "y"}, {"n": ("k", "a", "b")}), [
    ({"a": "x", "b": "y"}, {"n": ("k", "a", "b")}),
])
STILL = (EMPTY, EMPTY, [])
RULES = [SWAP, BACK, GROW, PRUNE, ONCE, STILL]
WEB = ({"u": "x", "v": "y"}, {"w": ("l", "v", "v")})
NO_MARKS = [thing for thing in ODD_THINGS if not (isinstance(thing, str) and thing == "a")] + [
    "", "abcdefg", "N", "n0", "n.", " n", "n ", "n\n", ["n"], ("n",), {"n": "n"}, 7,
]


class SlowWorkshop:
    """Point 28, word for word: the webs of all deeds done are kept, and where among them the workshop is."""

    def __init__(self, web, rules):
        self.rules = rules
        self.webs = [web]
        self.steps = []
        self.place = 0

    def deed(self, number, match, mark):
        if type(number) is not int or number < 0 or number >= len(self.rules):
            return ("NoRule",)
        if mark not in ("n", "m", "abcdef"):
            return ("NoNames",)
        rule = self.rules[number]
        step = (rule, match, new_names(rule, f"{mark}{self.place}."))
        told = slow_done(self.webs[self.place], step)
        if told[0] == "web":
            self.webs[self.place + 1:] = [told[1]]
            self.steps[self.place:] = [step]
            self.place += 1
        return told

    def gone(self, way):
        if not 0 <= self.place + way < len(self.webs):
            return ("NoDeed",)
        self.place += way
        return ("web", self.webs[self.place])


def tried(asked, *handed):
    """("web", what is told), or the name of the refusal."""
    try:
        return ("web", asked(*handed))
    except GlueError as refusal:
        return (type(refusal).__name__,)


class Workshops(unittest.TestCase):
    def assert_refused(self, refusal, shop, asked, *handed):
        """It is refused so, and nothing changes."""
        ahead = (shop.web(), shop.row(), shop.choices())
        with Unchanged(self, handed):
            with self.assertRaises(GlueError) as caught:
                asked(*handed)
        self.assertIs(refusal, type(caught.exception), handed)
        self.assertEqual(ahead, (shop.web(), shop.row(), shop.choices()))

    def test_a_new_one(self):
        for web, rules in [(WEB, RULES), (EMPTY, []), (RICH, [STILL, GROW]), (EMPTY, RULES)]:
            with Unchanged(self, web, rules):
                shop = Workshop(web, rules)
                self.assertEqual(web, shop.web())
                self.assertEqual([], shop.row())
                self.assertEqual(slow_choices(web, rules), shop.choices())
            self.assert_refused(NoDeed, shop, shop.undo)
            self.assert_refused(NoDeed, shop, shop.redo)

    def test_deeds_by_hand(self):
        shop = Workshop(WEB, RULES)
        first = ({"u": "x", "v": "y", "n0.q": "x"}, {"w": ("l", "v", "v"), "n0.t": ("k", "u", "n0.q")})
        self.assertEqual(first, shop.deed(2, {"p": "u"}))
        second = ({**first[0], "mark1.q": "x"}, {**first[1], "mark1.t": ("k", "n0.q", "mark1.q")})
        self.assertEqual(second, shop.deed(2, {"p": "n0.q"}, "mark"))
        third = (second[0], {**second[1], "n2.n": ("k", "u", "v")})
        self.assertEqual(third, shop.deed(4, {"a": "u", "b": "v"}, "n"))
        self.assertEqual(third, shop.web())
        row = [
            (GROW, {"p": "u"}, {"q": "n0.q", "t": "n0.t"}), (GROW, {"p": "n0.q"}, {"q": "mark1.q", "t": "mark1.t"}),
            (ONCE, {"a": "u", "b": "v"}, {"n": "n2.n"}),
        ]
        self.assertEqual(row, shop.row())
        self.assertEqual(second, shop.undo())
        self.assertEqual(first, shop.undo())
        self.assertEqual(row[:1], shop.row())
        self.assertEqual(second, shop.redo())
        self.assertEqual(row[:2], shop.row())
        self.assertEqual(third, shop.redo())
        self.assertEqual(row, shop.row())
        self.assert_refused(NoDeed, shop, shop.redo)
        for web in (second, first, WEB):
            self.assertEqual(web, shop.undo())
        self.assert_refused(NoDeed, shop, shop.undo)
        self.assertEqual([], shop.row())

    def test_the_number_counts_what_was_done_and_not_undone(self):
        shop = Workshop(WEB, RULES)
        shop.deed(2, {"p": "u"})
        shop.deed(2, {"p": "u"})
        shop.undo()
        self.assertIn("m1.q", shop.deed(2, {"p": "u"}, "m")[0])
        shop.undo()
        shop.undo()
        self.assertIn("m0.q", shop.deed(2, {"p": "u"}, "m")[0])
        shop.undo()
        shop.redo()
        self.assertIn("m1.q", shop.deed(2, {"p": "u"}, "m")[0])

    def test_a_number_of_two_figures(self):
        shop = Workshop(({"u": "x"}, {}), [GROW])
        for number in range(12):
            self.assertIn(f"n{number}.t", shop.deed(0, {"p": "u"})[1])
        self.assertEqual([{"q": f"n{number}.q", "t": f"n{number}.t"} for number in range(12)],
                         [step[2] for step in shop.row()])

    def test_a_new_deed_leaves_nothing_to_redo(self):
        shop = Workshop(WEB, RULES)
        shop.deed(0, {"p": "u"})
        shop.undo()
        shop.deed(2, {"p": "u"})
        self.assert_refused(NoDeed, shop, shop.redo)
        shop.undo()
        self.assertIn("n0.t", shop.redo()[1])
        self.assert_refused(NoDeed, shop, shop.redo)

    def test_also_a_deed_that_is_the_same_as_what_was_undone(self):
        shop = Workshop(WEB, RULES)
        shop.deed(2, {"p": "u"})
        shop.deed(2, {"p": "u"})
        shop.undo()
        shop.undo()
        shop.deed(2, {"p": "u"})
        self.assert_refused(NoDeed, shop, shop.redo)

    def test_what_was_undone_is_done_again_as_it_was(self):
        shop = Workshop(WEB, RULES)
        for mark in ("one", "two", "three"):
            shop.deed(2, {"p": "u"}, mark)
        row = shop.row()
        for number in range(3):
            shop.undo()
        for number in range(3):
            self.assertEqual(gone_through(WEB, row)[number + 1], shop.redo())
        self.assertEqual(row, shop.row())

    def test_what_is_refused_leaves_what_can_be_redone(self):
        shop = Workshop(WEB, RULES)
        shop.deed(0, {"p": "u"})
        end = shop.web()
        shop.undo()
        self.assert_refused(NoRule, shop, shop.deed, 6, {}, "n")
        self.assert_refused(NoNames, shop, shop.deed, 0, {"p": "u"}, "N")
        self.assert_refused(NoMatch, shop, shop.deed, 0, {"p": "v"})
        self.assert_refused(NoDeed, shop, shop.undo)
        self.assertEqual(end, shop.redo())
        self.assert_refused(NoDeed, shop, shop.redo)
        self.assertEqual(WEB, shop.undo())

    def test_no_rule(self):
        shop = Workshop(WEB, RULES)
        whole = [thing for thing in ODD_THINGS if type(thing) is not int or not 0 <= thing < 6]
        for number in whole + [6, 7, -1, -6, 10 ** 59, 0.0, 1.0, "0", "1", (0,), [0], SWAP]:
            self.assert_refused(NoRule, shop, shop.deed, number, {"p": "u"})
            self.assert_refused(NoRule, shop, shop.deed, number, None, None)
            self.assert_refused(NoRule, shop, shop.deed, number, {}, "N")
        empty = Workshop(WEB, [])
        for number in (0, 1, -1, True, False, None):
            self.assert_refused(NoRule, empty, empty.deed, number, {})

    def test_no_mark(self):
        shop = Workshop(WEB, RULES)
        for mark in NO_MARKS:
            self.assert_refused(NoNames, shop, shop.deed, 0, {"p": "u"}, mark)
            self.assert_refused(NoNames, shop, shop.deed, 0, None, mark)
            self.assert_refused(NoNames, shop, shop.deed, 0, {"p": "v"}, mark)
            self.assert_refused(NoNames, shop, shop.deed, 5, {}, mark)
        for mark in ("a", "z", "abcdef"):
            self.assertIn(f"{mark}0.q", Workshop(WEB, RULES).deed(0, {"p": "u"}, mark)[0])

    def test_no_match(self):
        shop = Workshop(WEB, RULES)
        whole = [thing for thing in ODD_THINGS if thing != {"p": "u"}]
        for match in whole + [{"p": "v"}, {"p": "w"}, {"p": "z"}, {"p": None}, {"p": ["u"]}, {"p": "u", "q": "v"}]:
            self.assert_refused(NoMatch, shop, shop.deed, 0, match)
        for match in (None, [], (), "", {"p": "u"}, {None: None}):
            self.assert_refused(NoMatch, shop, shop.deed, 5, match)

    def test_loose_barred_and_no_names(self):
        shop = Workshop(({"u": "x", "v": "y", "n2.n": "z"}, {"w": ("k", "u", "v")}), RULES)
        self.assert_refused(Loose, shop, shop.deed, 0, {"p": "u"})
        self.assert_refused(Loose, shop, shop.deed, 1, {"p": "v"})
        self.assert_refused(Barred, shop, shop.deed, 4, {"a": "u", "b": "v"})
        for number in range(2):
            shop.deed(5, {})
        shop = Workshop(({"u": "x", "v": "y", "n2.n": "z"}, {}), RULES)
        for number in range(2):
            shop.deed(5, {})
        self.assert_refused(NoNames, shop, shop.deed, 4, {"a": "u", "b": "v"})
        self.assert_refused(NoMatch, shop, shop.deed, 4, {"a": "v", "b": "u"})
        self.assertIn("m2.n", shop.deed(4, {"a": "u", "b": "v"}, "m")[1])
        self.assert_refused(Barred, shop, shop.deed, 4, {"a": "u", "b": "v"})

    def test_a_name_of_what_is_taken_out_serves_no_new_thing(self):
        shop = Workshop(({"n0.q": "x"}, {}), RULES)
        self.assert_refused(NoNames, shop, shop.deed, 0, {"p": "n0.q"})

    def test_undoing_asks_for_no_bars(self):
        # Behind the deed a bar of its rule is there, and so is the web that the deed's undoing leaves.
        shop = Workshop(({"u": "x", "v": "y"}, {}), [ONCE])
        shop.deed(0, {"a": "u", "b": "v"})
        self.assertEqual(({"u": "x", "v": "y"}, {}), shop.undo())
        self.assertEqual(({"u": "x", "v": "y"}, {"n0.n": ("k", "u", "v")}), shop.redo())

    def test_deeds_that_change_nothing_count(self):
        shop = Workshop(EMPTY, [STILL])
        for number in range(3):
            self.assertEqual(EMPTY, shop.deed(0, {}))
        self.assertEqual([(STILL, {}, {})] * 3, shop.row())
        for number in range(3):
            self.assertEqual(EMPTY, shop.undo())
        self.assert_refused(NoDeed, shop, shop.undo)
        for number in range(3):
            self.assertEqual(EMPTY, shop.redo())

    def test_what_was_handed_in_may_be_changed_behind_it(self):
        web, rules = copy.deepcopy((WEB, RULES))
        match = {"p": "u"}
        shop = Workshop(web, rules)
        web[0].clear()
        web[1].clear()
        for rule in rules[:5]:
            rule[0][0].clear()
            rule[0][1].clear()
            rule[1][0]["zz"] = "zz"
            rule[2].append(EMPTY)
        rules.clear()
        self.assertEqual((WEB, slow_choices(WEB, RULES)), (shop.web(), shop.choices()))
        shop.deed(2, match)
        match["p"] = "nothing"
        self.assertEqual([(GROW, {"p": "u"}, {"q": "n0.q", "t": "n0.t"})], shop.row())
        self.assertEqual(WEB, shop.undo())
        self.assertEqual({"w", "n0.t"}, set(shop.redo()[1]))

    def test_what_is_told_is_new(self):
        shop = Workshop(WEB, RULES)
        told = [shop.web(), shop.deed(2, {"p": "u"}), shop.deed(4, {"a": "u", "b": "v"}), shop.web(), shop.undo()]
        told.append(shop.redo())
        shown = repr((shop.web(), shop.row(), shop.choices()))
        for web in told:
            web[0].clear()
            web[1]["spoiled"] = "spoiled"
        for rule, match, fresh in shop.row():
            for held in (match, fresh, *rule[0], *rule[1]):
                held.clear()
            rule[2].append(EMPTY)
        shop.row().clear()
        for number, match in shop.choices():
            match.clear()
        shop.choices().clear()
        self.assertEqual(shown, repr((shop.web(), shop.row(), shop.choices())))
        shop.undo()
        self.assertEqual(WEB, shop.undo())
        shop.redo()
        shop.redo()
        self.assertEqual(shown, repr((shop.web(), shop.row(), shop.choices())))

    def test_two_workshops_have_nothing_in_common(self):
        one = Workshop(WEB, RULES)
        other = Workshop(WEB, RULES)
        one.deed(0, {"p": "u"})
        self.assertEqual((WEB, []), (other.web(), other.row()))
        self.assert_refused(NoDeed, other, other.undo)

    def test_drawn_deeds(self):
        chance = random.Random(227)
        counts = {}
        for round_number in range(150):
            rules = RULES[:5] + [some_rule(chance, "xxxy", "kkkl", 2) for k in range(chance.randrange(1, 4))]
            chance.shuffle(rules)
            web = some_web(chance, chance.randrange(5), chance.randrange(3), "xxxy", "kkkl")
            shop = Workshop(web, rules)
            slow = SlowWorkshop(web, rules)
            for turn in range(25):
                told, expected = self.some_deed(chance, shop, slow)
                self.assertEqual(expected, told)
                counts[told[0]] = counts.get(told[0], 0) + 1
                self.assertEqual(slow.webs[slow.place], shop.web())
                self.assertEqual(slow.steps[:slow.place], shop.row())
            self.assertEqual(choices(shop.web(), rules), shop.choices())
            self.assertEqual(shop.web(), gone_through(web, shop.row())[-1])
            self.assertEqual(web, gone_through(shop.web(), back_row(shop.row()))[-1])
        self.assertEqual({"web", "NoRule", "NoNames", "NoMatch", "Loose", "Barred", "NoDeed"}, set(counts))
        self.assertGreater(min(counts.values()), 10, counts)

    def some_deed(self, chance, shop, slow):
        """What a deed drawn by chance leads to, in the workshop and in the slow one."""
        kind = chance.randrange(10)
        if kind < 3:
            return tried(shop.undo), slow.gone(-1)
        if kind < 5:
            return tried(shop.redo), slow.gone(1)
        number = chance.randrange(len(slow.rules))
        some = slow_matches(slow.rules[number][0], shop.web())[:50] if len(shop.web()[0]) < 7 else []
        match = chance.choice(some) if some else {}
        if chance.randrange(2) and shop.choices():
            number, match = chance.choice(shop.choices())
        if chance.randrange(12) == 0:
            number = chance.choice([-1, len(slow.rules), True, None])
        if chance.randrange(8) == 0:
            match = chance.choice([None, {}, {"p": "u"}, {**match, "more": "more"}])
        mark = chance.choice(["n", "n", "n", "m", "abcdef", "n", "n", "n", "m", "n0", ""])
        return tried(shop.deed, number, match, mark), slow.deed(number, match, mark)

    def test_the_samples_themselves(self):
        for rule in RULES:
            self.assertTrue(is_rule(rule))


if __name__ == "__main__":
    unittest.main()
