"""Points 25 and 3: books of rules, by which any two steps from one web meet again."""

import random
import unittest

from gluework.books import Book
from gluework.errors import GlueError, HasBars, Loose, NoMatch, NoNames, NoRule, Open
from gluework.meetings import looked_through
from gluework.rules import is_rule
from gluework.webs import is_web
from samples import (
    EMPTY, ODD_THINGS, Unchanged, assert_likeness, drawn_ties, gone_well, names_in_order, slow_clash, slow_done,
    slow_split_steps, slow_splits, some_rule, some_web, steps_of, taken_by,
)


def swap(kind, other):
    """A rule that takes out a point and puts one of another kind there."""
    return (({"p": kind}, {}), ({"q": other}, {}), [])


def recast(kind, other):
    """A rule that takes out a tie and puts one of another kind there."""
    points = {"a": "x", "b": "x"}
    return ((points, {"t": (kind, "a", "b")}), (points, {"n": (other, "a", "b")}), [])


DIAMOND = [swap("x", "y"), swap("x", "z"), swap("y", "w"), swap("z", "w")]
TIES = [recast("k", "l"), recast("k", "m"), recast("l", "n"), recast("m", "n")]
CHAIN = ({"a": "x", "b": "x", "c": "x"}, {"s": ("k", "a", "b"), "t": ("k", "b", "c")})
SHORTEN = (CHAIN, ({"a": "x", "c": "x"}, {"n": ("k", "a", "c")}), [])
FORK = ({"a": "x", "b": "x"}, {"s": ("k", "a", "b"), "t": ("k", "a", "b")})
FUSE = (FORK, (FORK[0], {"s": ("k", "a", "b")}), [])
REFUSE = (FORK, (FORK[0], {"n": ("k", "a", "b")}), [])
DROP = (({"p": "x"}, {}), EMPTY, [])
ADD = (EMPTY, ({"p": "x"}, {}), [])
LOOP = (({"p": "x"}, {}), ({"p": "x"}, {"n": ("k", "p", "p")}), [])
# A leaf is taken out, or first painted and then taken out.
LEAF = ({"a": "x", "b": "x"}, {"t": ("k", "a", "b")})
PRUNE = (LEAF, ({"a": "x"}, {}), [])
PAINT = (LEAF, ({"a": "x", "c": "y"}, {"n": ("k", "a", "c")}), [])
PRUNE_PAINTED = (({"a": "x", "b": "y"}, {"t": ("k", "a", "b")}), ({"a": "x"}, {}), [])
# A point with a tie to itself, and the names as long as they may be.
LONG = [
    (({"abcdefgh": "x"}, {"ijklmnop": ("k", "abcdefgh", "abcdefgh")}), ({"qrstuvwx": kind}, {}), []) for kind in "yz"
] + [(({"abcdefgh": kind}, {}), ({"qrstuvwx": "w"}, {}), []) for kind in "yz"]
TWICE = [swap("x", "y"), swap("x", "ya"), swap("ya", "yb"), swap("yb", "yc"), swap("yc", "y")]
LISTS = [
    (DIAMOND, 1), (TIES, 1), ([SHORTEN], 0), ([FUSE], 0), ([REFUSE], 1), ([DROP], 0), ([DROP, ADD, LOOP], 2),
    ([PRUNE, PAINT, PRUNE_PAINTED], 1), (LONG, 1), (TWICE, 3), ([SHORTEN, SHORTEN], 0), (DIAMOND + DIAMOND[:2], 1),
    ([], 1),
]

ODD_NAMES = [
    "a.a", "a.b", "a.p", "a.t", "b.a", "b.b", "b.p", "b.t", "c.q", "c.n", "c.c", "d.q", "d.n", "d.c", "e0.q", "f0.q",
    "e0.n", "f0.n", "m", "mm.q", "m1.e0.q", "p", "q", "n", "t", "z" * 24, "x1..2.", "a" + "." * 23, "c." + "q" * 22,
    "f1.q", "e1.q", "c", "d", "e0", "a.", "abcdefghijklmnopqrstuvwx", "q9", "a.qrstuvwx", "c.qrstuvwx", "d.qrstuvwx",
]


def renamed_thing(web, put):
    return (
        {put[name]: kind for name, kind in web[0].items()},
        {put[name]: (kind, put[start], put[end]) for name, (kind, start, end) in web[1].items()},
    )


def names_for(chance, names, used):
    """Odd names for these, each once; what is used is used up."""
    told = {}
    for name in names:
        told[name] = chance.choice([one for one in ODD_NAMES if one not in used])
        used.append(told[name])
    return told


def embedded(chance, rule, other, pairs):
    """A web, larger than the overlap web of a split and with odd names, and the split's steps in it."""
    web, one, two = slow_split_steps(rule, other, pairs)
    gone = taken_by(one) + taken_by(two)
    more = some_web(chance, chance.randrange(5), 0, "xyzw", "klmn", "more.")
    points = {**web[0], **more[0]}
    free = [name for name in points if name not in gone]
    letters = [f"more.t{k}" for k in range(6)]
    ties = {**web[1], **drawn_ties(chance, letters, free, "klmn", chance.randrange(6))}
    used = []
    put = names_for(chance, names_in_order((points, ties)), used)
    steps = []
    for step in (one, two):
        match = {name: put[image] for name, image in step[1].items()}
        steps.append((step[0], match, names_for(chance, step[2], used)))
    return renamed_thing((points, ties), put), steps[0], steps[1]


class Books(unittest.TestCase):
    def assert_meet(self, book, rules, web, one, other, mark="m"):
        """What the book tells of two steps is so by point 25; told is whether they are apart."""
        self.assertTrue(is_web(web))
        with Unchanged(self, rules, web, one, other):
            told = book.meet(web, one, other) if mark == "m" else book.meet(web, one, other, mark)
        self.assertIsInstance(told, tuple)
        way, other_way, likeness = told
        ahead = [slow_done(web, step)[1] for step in (one, other)]
        if slow_clash(web, one, other) is None:
            end = slow_done(ahead[0], other)[1]
            self.assertEqual(end, slow_done(ahead[1], one)[1])
            self.assertEqual(([other], [one], {name: name for name in names_in_order(end)}), told)
            return True
        found = [*one[1].values(), *other[1].values()]
        gone = taken_by(one) + taken_by(other)
        kept = {name for name in names_in_order(web) if name not in found}
        kept |= {name for name in web[0] if name not in gone}
        new_name = rf"^{mark}\.[a-z][a-z0-9.]{{0,15}}$"
        end = gone_well(self, ahead[0], way, rules, kept, new_name)
        other_end = gone_well(self, ahead[1], other_way, rules, kept, new_name)
        assert_likeness(self, end, other_end, likeness, kept)
        return False

    def test_each_split_in_a_larger_web(self):
        chance = random.Random(127)
        count = 0
        for rules, most in LISTS:
            book = Book(rules, most)
            for rule in rules:
                for other in rules:
                    for pairs in slow_splits(rule, other):
                        for round_number in range(4):
                            web, one, two = embedded(chance, rule, other, pairs)
                            self.assertFalse(self.assert_meet(book, rules, web, one, two))
                            count += 1
        self.assertGreater(count, 300)

    def test_drawn_steps_of_drawn_webs(self):
        chance = random.Random(131)
        counts = {True: 0, False: 0}
        for round_number in range(500):
            rules, most = chance.choice(LISTS[:-1])
            book = Book(rules, most)
            web = some_web(chance, chance.randrange(1, 6), chance.randrange(5), "xxxxyz", "kkklm")
            ones = [step for rule in rules for step in steps_of(rule, web, "n.")]
            others = [step for rule in rules for step in steps_of(rule, web, "o.")]
            for round_of_steps in range(4 if ones else 0):
                apart = self.assert_meet(book, rules, web, chance.choice(ones), chance.choice(others))
                counts[apart] += 1
        self.assertGreater(min(counts.values()), 100, counts)

    def test_drawn_rules(self):
        chance = random.Random(137)
        rows = 0
        splits = 0
        for round_number in range(300):
            rules = [some_rule(chance, "xxxy", "kkkl") for k in range(chance.randrange(1, 4))]
            most = chance.randrange(3)
            told = looked_through(rules, most)
            if told[0] == "open":
                self.assertRaises(Open, Book, rules, most)
                continue
            book = Book(rules, most)
            self.assertEqual(told[1], book.meetings())
            for i, j, pairs, met in chance.sample(told[1], min(6, len(told[1]))):
                rows += met[0] != [] or met[1] != []
                splits += 1
                web, one, two = embedded(chance, rules[i], rules[j], pairs)
                self.assertFalse(self.assert_meet(book, rules, web, one, two))
                self.assertFalse(self.assert_meet(book, rules, web, two, one))
        self.assertGreater(splits, 150)
        self.assertGreater(rows, 10)

    def test_by_hand(self):
        web = ({"u": "x", "v": "x"}, {"t": ("k", "v", "v")})
        book = Book(DIAMOND)
        way, other_way, likeness = book.meet(
            web, (DIAMOND[0], {"p": "u"}, {"q": "r"}), (DIAMOND[1], {"p": "u"}, {"q": "s"}), "mark"
        )
        self.assertEqual([(DIAMOND[2], {"p": "r"})], [step[:2] for step in way])
        self.assertEqual([(DIAMOND[3], {"p": "s"})], [step[:2] for step in other_way])
        new = [row[0][2]["q"] for row in (way, other_way)]
        self.assertTrue(all(name.startswith("mark.") for name in new))
        self.assertEqual({new[0]: new[1], "v": "v", "t": "t"}, likeness)

    def test_the_later_rule_s_step_first(self):
        web = ({"u": "x", "v": "x"}, {"t": ("k", "v", "v")})
        book = Book(DIAMOND)
        one = (DIAMOND[0], {"p": "u"}, {"q": "r"})
        other = (DIAMOND[1], {"p": "u"}, {"q": "s"})
        self.assert_meet(book, DIAMOND, web, other, one)
        told = book.meet(web, one, other)
        turned = book.meet(web, other, one)
        self.assertEqual((told[1], told[0]), turned[:2])
        self.assertEqual({image: name for name, image in told[2].items()}, turned[2])

    def test_steps_apart(self):
        web = ({"u": "x", "v": "x"}, {})
        book = Book(DIAMOND)
        one = (DIAMOND[0], {"p": "u"}, {"q": "r"})
        other = (DIAMOND[1], {"p": "v"}, {"q": "s"})
        self.assertEqual(([other], [one], {"r": "r", "s": "s"}), book.meet(web, one, other))
        self.assertTrue(self.assert_meet(book, DIAMOND, web, other, one))
        grow = [ADD, LOOP]
        book = Book(grow, 0)
        one = (LOOP, {"p": "u"}, {"n": "r"})
        self.assertTrue(self.assert_meet(book, grow, web, one, (LOOP, {"p": "u"}, {"n": "s"})))
        self.assertTrue(self.assert_meet(book, grow, web, one, (ADD, {}, {"p": "s"})))
        self.assertTrue(self.assert_meet(book, grow, EMPTY, (ADD, {}, {"p": "r"}), (ADD, {}, {"p": "s"})))

    def test_the_same_step_twice_but_for_fresh(self):
        web = ({"u": "x", "v": "x"}, {"t": ("k", "v", "u"), "s": ("k", "v", "u")})
        for rules, match in [
            ([REFUSE], {"a": "v", "b": "u", "s": "s", "t": "t"}), (TIES, {"a": "v", "b": "u", "t": "s"}),
        ]:
            book = Book(rules)
            one = (rules[0], match, {"n": "new"})
            other = (rules[0], match, {"n": "newer"})
            self.assertFalse(self.assert_meet(book, rules, web, one, other))
            self.assertEqual(([], []), book.meet(web, one, other)[:2])
            self.assertEqual("newer", book.meet(web, one, other)[2]["new"])

    def test_the_very_same_step_where_nothing_is_new(self):
        web = ({"u": "x", "v": "x"}, {})
        step = (DROP, {"p": "u"}, {})
        self.assertEqual(([], [], {"v": "v"}), Book([DROP], 0).meet(web, step, step))
        still = (DROP[0], DROP[0], [])
        step = (still, {"p": "u"}, {})
        self.assertEqual(([step], [step], {"u": "u", "v": "v"}), Book([still], 0).meet(web, step, step))

    def test_a_rule_that_the_book_has_twice(self):
        chance = random.Random(139)
        rules = [SHORTEN, SHORTEN]
        book = Book(rules, 0)
        self.assertEqual(15, len(book.meetings()))
        for pairs in slow_splits(SHORTEN, SHORTEN):
            web, one, two = embedded(chance, SHORTEN, SHORTEN, pairs)
            self.assertFalse(self.assert_meet(book, rules, web, one, two))

    def test_marks(self):
        web = ({"u": "x", "m": "x", "mm.q": "x", "ma": "y"}, {"m1.q": ("k", "m", "m")})
        one = (DIAMOND[0], {"p": "u"}, {"q": "mark"})
        other = (DIAMOND[1], {"p": "u"}, {"q": "r"})
        book = Book(DIAMOND)
        for mark in ("m", "a", "z", "abcdef", "mark", "marks", "q"):
            self.assertFalse(self.assert_meet(book, DIAMOND, web, one, other, mark))
            self.assertFalse(self.assert_meet(book, DIAMOND, web, other, one, mark))
        self.assertEqual(book.meet(web, one, other, "m"), book.meet(web, one, other))

    def test_names_as_long_as_they_may_be(self):
        web = ({"a" * 24: "x"}, {"b" * 24: ("k", "a" * 24, "a" * 24)})
        match = {"abcdefgh": "a" * 24, "ijklmnop": "b" * 24}
        steps = [(LONG[k], match, {"qrstuvwx": "cd"[k] * 24}) for k in range(2)]
        self.assertFalse(self.assert_meet(Book(LONG), LONG, web, *steps, "abcdef"))

    def test_a_web_as_large_as_webs_are(self):
        points = {f"p{k}": "x" for k in range(40)}
        ties = {f"t{k}": ("k", f"p{k}", f"p{k + 1}") for k in range(39)}
        ties.update({f"u{k}": ("l", f"p{k + 11}", f"p{39 - k}") for k in range(21)})
        steps = []
        for k in (8, 9):
            match = {"a": f"p{k}", "b": f"p{k + 1}", "c": f"p{k + 2}", "s": f"t{k}", "t": f"t{k + 1}"}
            steps.append((SHORTEN, match, {"n": f"new{k}"}))
        self.assertEqual((40, 60), (len(points), len(ties)))
        self.assertFalse(self.assert_meet(Book([SHORTEN], 0), [SHORTEN], (points, ties), *steps))


class Making(unittest.TestCase):
    def assert_refused(self, refusal, *handed):
        with Unchanged(self, handed):
            with self.assertRaises(GlueError) as told:
                Book(*handed)
        self.assertIs(refusal, type(told.exception))

    def test_open(self):
        self.assert_refused(Open, DIAMOND[:2])
        self.assert_refused(Open, DIAMOND, 0)
        self.assert_refused(Open, TWICE, 2)
        self.assert_refused(Open, [PRUNE, PAINT], 3)
        self.assert_refused(Open, DIAMOND[:3], 3)

    def test_most_left_out_is_1(self):
        self.assertEqual(5, len(Book(DIAMOND).meetings()))
        self.assert_refused(Open, [DROP, ADD, LOOP])
        self.assertTrue(Book([DROP, ADD, LOOP], 2).meetings())

    def test_bars_ahead_of_open(self):
        bad = (DROP[0], EMPTY, [DROP[0]])
        for rules in ([bad], DIAMOND + [bad], [bad] + DIAMOND, DIAMOND[:2] + [bad], [bad] + DIAMOND[:2]):
            for most in range(4):
                self.assert_refused(HasBars, rules, most)

    def test_no_rules(self):
        for most in range(4):
            self.assertEqual([], Book([], most).meetings())

    def test_meetings_are_those_of_the_rules_looked_through(self):
        for rules, most in LISTS:
            told = Book(rules, most).meetings()
            self.assertEqual(looked_through(rules, most), ("meet", told))
            self.assertIsInstance(told, list)

    def test_the_samples_themselves(self):
        for rules, most in LISTS:
            self.assertTrue(all(is_rule(rule) for rule in rules))


class Own(unittest.TestCase):
    def test_the_rules_changed_behind_the_book(self):
        rules = [swap("x", "y"), swap("x", "z"), swap("y", "w"), swap("z", "w")]
        book = Book(rules)
        told = book.meetings()
        for rule in rules:
            rule[0][0].clear()
            rule[1][0]["r"] = "r"
            rule[2].append(EMPTY)
        rules.clear()
        self.assert_as_before(book, told)

    def test_what_was_told_changed_by_the_asker(self):
        book = Book(DIAMOND)
        told = book.meetings()
        for spoiled in (book.meetings(), book.meetings()):
            for i, j, pairs, (way, other_way, likeness) in spoiled:
                for step in way + other_way:
                    for named in (*step[0][0], *step[0][1], *step[1:]):
                        named.clear()
                    step[0][2].append(EMPTY)
                for held in (pairs, way, other_way, likeness):
                    held.clear()
            spoiled.clear()
        way, other_way, likeness = book.meet(*self.steps())
        way[0][0][0][0].clear()
        other_way[0][0][1][0].clear()
        likeness.clear()
        self.assert_as_before(book, told)

    def steps(self):
        web = ({"u": "x"}, {})
        return web, (DIAMOND[0], {"p": "u"}, {"q": "r"}), (DIAMOND[1], {"p": "u"}, {"q": "s"})

    def assert_as_before(self, book, told):
        self.assertEqual(Book(DIAMOND).meetings(), book.meetings())
        self.assertEqual(told, book.meetings())
        self.assertEqual(Book(DIAMOND).meet(*self.steps()), book.meet(*self.steps()))

    def test_books_are_apart(self):
        book = Book(DIAMOND)
        other = Book(TIES)
        self.assertRaises(NoRule, other.meet, *self.steps())
        self.assertEqual(3, len(book.meet(*self.steps())))


WEB = ({"u": "x", "v": "x", "h": "x", "nope": "g", "bad.q": "g"}, {"t": ("k", "h", "h")})
# Two steps at one point, and steps that are refused as a step is, each in its way.
ONE = (DIAMOND[0], {"p": "u"}, {"q": "r"})
OTHER = (DIAMOND[1], {"p": "u"}, {"q": "s"})
AWAY = (DIAMOND[1], {"p": "v"}, {"q": "s"})
STRANGE = (DROP, {"p": "u"}, {})
NOT_THERE = (DIAMOND[0], {"p": "nope"}, {"q": "r"})
HELD = (DIAMOND[0], {"p": "h"}, {"q": "r"})
ILL_NAMED = (DIAMOND[0], {"p": "u"}, {"q": "v"})
SAME_NAME = (DIAMOND[1], {"p": "v"}, {"q": "r"})


class Refusals(unittest.TestCase):
    def assert_refused(self, refusal, one, other, mark="m", web=WEB):
        with self.subTest((refusal, one, other, mark)):
            with Unchanged(self, web, one, other, mark):
                with self.assertRaises(GlueError) as told:
                    Book(DIAMOND).meet(web, one, other, mark)
            self.assertIs(refusal, type(told.exception))

    def words(self, one, other, mark, web=WEB):
        """The words of a refusal: those of two ways to refuse with NoNames are told from one another by them."""
        try:
            Book(DIAMOND).meet(web, one, other, mark)
        except GlueError as refused:
            return str(refused)
        return None

    def test_these_are_not_refused(self):
        for other in (OTHER, AWAY):
            self.assertEqual(3, len(Book(DIAMOND).meet(WEB, ONE, other)))

    def test_a_mark_that_is_none_of_any_kind(self):
        for mark in ODD_THINGS + ["", "abcdefg", "A", "a1", "a.", ".", "1", "a b", "m\n", "a-b", "\u00e4"]:
            if mark != "a":
                for one in (ONE, STRANGE, NOT_THERE, HELD, ILL_NAMED):
                    self.assert_refused(NoNames, one, OTHER, mark)
                    self.assert_refused(NoNames, OTHER, one, mark)
                self.assert_refused(NoNames, ONE, AWAY, mark)
                self.assert_refused(NoNames, ONE, SAME_NAME, mark)

    def test_a_rule_that_is_none_of_the_book_s(self):
        barred = (DIAMOND[0][0], DIAMOND[0][1], [({"p": "x", "o": "g"}, {})])
        for rule in (DROP, barred, (DIAMOND[0][1], DIAMOND[0][0], []), swap("x", "x"), (EMPTY, EMPTY, [])):
            step = (rule, {"p": "u"}, {"q": "r"})
            for other in (OTHER, AWAY, STRANGE, NOT_THERE, HELD, ILL_NAMED, SAME_NAME):
                for mark in ("m", "bad"):
                    self.assert_refused(NoRule, step, other, mark)
                    self.assert_refused(NoRule, other, step, mark)

    def test_as_a_step_is_the_first_one_s_first(self):
        bad = [
            (NoMatch, NOT_THERE), (Loose, HELD), (NoNames, ILL_NAMED), (NoMatch, (DIAMOND[0], None, {"q": "r"})),
            (NoNames, (DIAMOND[0], {"p": "u"}, None)), (NoNames, (DIAMOND[0], {"p": "u"}, {})),
            (NoMatch, (DIAMOND[0], {"p": "nope"}, {"q": "u"})), (Loose, (DIAMOND[0], {"p": "h"}, {"q": "u"})),
            (NoMatch, (DIAMOND[0], [], [])), (NoNames, (DIAMOND[1], {"p": "v"}, {"q": "R"})),
        ]
        for mark in ("m", "bad"):
            for refusal, step in bad:
                for good in (OTHER, AWAY):
                    self.assert_refused(refusal, step, good, mark)
                    self.assert_refused(refusal, good, step, mark)
                for other_refusal, other in bad:
                    self.assert_refused(refusal, step, other, mark)

    def test_both_freshes_give_the_same_name(self):
        self.assert_refused(NoNames, ONE, SAME_NAME)
        self.assert_refused(NoNames, SAME_NAME, ONE)
        self.assert_refused(NoNames, ONE, ONE)
        self.assert_refused(NoNames, ONE, (DIAMOND[1], {"p": "u"}, {"q": "r"}))

    def test_a_mark_that_a_name_begins_with(self):
        for other in (OTHER, AWAY):
            self.assert_refused(NoNames, ONE, other, "bad")
            for name in ("mk.x", "mk.", "mk.e0.q"):
                named = (DIAMOND[0], {"p": "u"}, {"q": name})
                self.assert_refused(NoNames, named, other, "mk")
                self.assert_refused(NoNames, other, named, "mk")
                self.assertEqual(3, len(Book(DIAMOND).meet(WEB, named, other, "m")))
                self.assert_refused(NoNames, ONE, other, "mk", ({**WEB[0], name: "x"}, WEB[1]))
                self.assert_refused(NoNames, ONE, other, "mk", (WEB[0], {**WEB[1], name: ("k", "h", "h")}))
            for name in ("mk", "mka.", "mk0.x", "a.mk.x", "amk.x"):
                web = ({**WEB[0], name: "x"}, WEB[1])
                self.assertEqual(3, len(Book(DIAMOND).meet(web, ONE, other, "mk")))

    def test_the_mark_is_refused_last_of_all(self):
        # These are all refused with NoNames: by the words it is the same refusal as with a mark that serves.
        for one, other in [(ONE, SAME_NAME), (ILL_NAMED, OTHER), (OTHER, ILL_NAMED), (ONE, ONE)]:
            self.assertEqual(self.words(one, other, "m"), self.words(one, other, "bad"))
            self.assertNotEqual(self.words(one, other, "bad"), self.words(ONE, OTHER, "bad"))
        self.assertEqual(self.words(ONE, OTHER, "M"), self.words(STRANGE, NOT_THERE, "M"))


if __name__ == "__main__":
    unittest.main()
