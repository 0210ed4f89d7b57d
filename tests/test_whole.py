"""Point 3: the promise over the whole program, by its parts together."""

import random
import unittest

from gluework.apart import clash
from gluework.books import Book
from gluework.desk import Desk
from gluework.ends import choices, ended
from gluework.errors import GlueError, Open
from gluework.matches import likeness, matches
from gluework.overlaps import lies, overlap_of, overlap_web, overlaps
from gluework.rows import back_row, gone_through
from gluework.rules import turned
from gluework.steps import back, done
from gluework.texts import rule_shown, web_shown
from gluework.webs import is_web
from gluework.weights import falls, weighed
from gluework.workshop import Workshop
from samples import Unchanged, are_alike, new_names, slow_weight, some_falling_rules, some_rule, some_web
from test_books import DIAMOND, DROP, FUSE, LONG, PAINT, PRUNE, PRUNE_PAINTED, REFUSE, SHORTEN, TIES, TWICE

# Books whose rules all fall: the rules, most, and the weights.
FALLING_BOOKS = [
    (DIAMOND, 1, {"x": 2, "y": 1, "z": 1}), (TIES, 1, {"k": 2, "l": 1, "m": 1}), ([SHORTEN], 0, {"k": 1}),
    ([SHORTEN], 1, {"x": 1}), ([FUSE], 0, {"k": 1}), ([REFUSE], 1, {"k": 3, "x": 5}), ([DROP], 0, {"x": 1}),
    ([PRUNE, PAINT, PRUNE_PAINTED], 1, {"x": 2, "y": 1}), (LONG, 1, {"x": 3, "y": 2, "z": 2, "w": 1}),
    (TWICE, 3, {"x": 5, "ya": 4, "yb": 3, "yc": 2, "y": 1}),
]


def stepped(web, rules, mark):
    """All steps of the web by the rules, new names with a mark ahead."""
    return [(rules[number], match, new_names(rules[number], mark)) for number, match in choices(web, rules)]


def can_be_done(web, step):
    try:
        done(web, step)
    except GlueError:
        return False
    return True


def all_ends(web, rules, number=0):
    """The webs in which all ways of going on end, each with the count of its steps."""
    steps = stepped(web, rules, f"n{number}.")
    if not steps:
        return [(number, web)]
    return [end for step in steps for end in all_ends(done(web, step), rules, number + 1)]


def pieced(chance, rules, count):
    """A web of so many lefts of the rules, drawn by chance, some of their points being one, and perhaps a tie more."""
    points = {}
    ties = {}
    for number in range(count):
        left = chance.choice(rules)[0]
        put = {}
        for name, kind in left[0].items():
            same = [old for old in sorted(points) if points[old] == kind and old not in put.values()]
            put[name] = chance.choice(same) if same and chance.randrange(3) == 0 else f"p{number}.{name}"
            points[put[name]] = kind
        ties.update({f"t{number}.{name}": (tie[0], put[tie[1]], put[tie[2]]) for name, tie in left[1].items()})
    if chance.randrange(4) == 0:
        ties["more"] = (chance.choice("kl"), chance.choice(sorted(points)), chance.choice(sorted(points)))
    return points, ties


def some_hand(chance):
    return lambda number, told: chance.randrange(-100, 100)


class Steps(unittest.TestCase):
    def test_a_step_done_back_gives_the_web_again(self):
        chance = random.Random(251)
        count = 0
        for round_number in range(400):
            web = some_web(chance, chance.randrange(5), chance.randrange(5), "xxxy", "kkkl")
            for step in stepped(web, [some_rule(chance, "xxxy", "kkkl", 2) for k in range(4)], "n."):
                behind = done(web, step)
                self.assertTrue(is_web(behind))
                self.assertEqual(web, done(behind, back(step)))
                again = back(back(step))
                self.assertEqual((step[0][0], step[0][1], []), again[0])
                self.assertEqual(step[1:], again[1:])
                self.assertEqual(again[0], turned(turned(step[0])))
                count += 1
        self.assertGreater(count, 300)

    def test_steps_are_apart_just_where_each_can_be_done_behind_the_other(self):
        chance = random.Random(257)
        counts = {}
        for round_number in range(300):
            web = some_web(chance, chance.randrange(5), chance.randrange(4), "xxxy", "kkkl")
            rules = [some_rule(chance, "xxxy", "kkkl", 2) for k in range(4)]
            ones = stepped(web, rules, "n.")
            others = stepped(web, rules, "o.")
            for one in chance.sample(ones, min(5, len(ones))):
                for other in chance.sample(others, min(5, len(others))):
                    why = clash(web, one, other)
                    each = can_be_done(done(web, one), other) and can_be_done(done(web, other), one)
                    self.assertIs(each, why is None)
                    if why is None:
                        self.assertEqual(done(done(web, one), other), done(done(web, other), one))
                    else:
                        self.assertIn(why[0], ("gone", "barred"))
                    counts[why and why[0]] = counts.get(why and why[0], 0) + 1
        self.assertGreater(min(counts.values()), 10, counts)
        self.assertEqual(3, len(counts))

    def test_two_matches_lie_in_just_one_overlap(self):
        chance = random.Random(263)
        for round_number in range(150):
            web = some_web(chance, chance.randrange(1, 5), chance.randrange(4), "xxxy", "kkkl")
            piece, other = [some_rule(chance, "xxxy", "kkkl")[0] for k in range(2)]
            every = overlaps(piece, other)
            for match in matches(piece, web)[:6]:
                for other_match in matches(other, web)[:6]:
                    pairs = overlap_of(match, other_match)
                    self.assertEqual(1, every.count(pairs))
                    whole, first, second = overlap_web(piece, other, pairs)
                    put = lies(piece, other, pairs, match, other_match)
                    fitting = [
                        told for told in matches(whole, web)
                        if all(told[first[name]] == match[name] for name in match)
                        and all(told[second[name]] == other_match[name] for name in other_match)
                    ]
                    self.assertEqual([put], fitting)


class Rows(unittest.TestCase):
    def test_rows_of_a_workshop_lead_to_its_web_and_back(self):
        chance = random.Random(269)
        steps = 0
        for round_number in range(150):
            web = some_web(chance, chance.randrange(5), chance.randrange(4), "xxxy", "kkkl")
            shop = Workshop(web, [some_rule(chance, "xxxy", "kkkl", 1) for k in range(4)])
            for turn in range(10):
                told = shop.choices()
                if shop.row() and chance.randrange(4) == 0:
                    shop.undo()
                elif told:
                    number, match = chance.choice(told)
                    shop.deed(number, match, chance.choice(["m", "n", "abcdef"]))
                self.assertEqual(shop.web(), gone_through(web, shop.row())[-1])
                self.assertEqual(web, gone_through(shop.web(), back_row(shop.row()))[-1])
                if len(shop.web()[0]) > 7:
                    break
            steps += len(shop.row())
        self.assertGreater(steps, 200)

    def test_a_desk_does_as_a_workshop_does(self):
        chance = random.Random(271)
        deeds = 0
        for round_number in range(60):
            web = some_web(chance, chance.randrange(5), chance.randrange(4), "xxxy", "kkkl")
            rules = [some_rule(chance, "xxxy", "kkkl", 1) for k in range(4)]
            shop = Workshop(web, rules)
            desk = Desk()
            desk.say("web " + web_shown(web))
            for name, rule in zip("abcd", rules):
                desk.say(f"rule {name} {rule_shown(rule)}")
            for turn in range(6):
                if not shop.choices() or len(shop.web()[0]) > 6:
                    break
                number, match = chance.choice(shop.choices())
                place = matches(rules[number][0], shop.web()).index(match)
                self.assertEqual(web_shown(shop.deed(number, match)), desk.say(f"do {'abcd'[number]} {place}"))
                deeds += 1
            for step in shop.row():
                self.assertEqual(web_shown(shop.undo()), desk.say("undo"))
        self.assertGreater(deeds, 50)


class Ends(unittest.TestCase):
    def assert_ends_alike(self, web, rules, weights, hands):
        """Ends by these hands are alike, within as many steps as the web weighs; told is how many steps they take."""
        told = []
        for hand in hands:
            with Unchanged(self, web, rules, weights):
                row, end = ended(web, rules, weights, hand, "zz")
            self.assertLessEqual(len(row), weighed(web, weights))
            webs = gone_through(web, row)
            self.assertEqual(end, webs[-1])
            self.assertEqual([], choices(end, rules))
            weighing = [weighed(one, weights) for one in webs]
            self.assertEqual(sorted(set(weighing), reverse=True), weighing)
            told.append(end)
        for end in told[1:]:
            self.assertTrue(are_alike(told[0], end, []))
            self.assertIsNotNone(likeness(told[0], end))
        return len(row)

    def test_ends_of_one_web_are_alike_where_the_rules_of_a_book_fall(self):
        chance = random.Random(277)
        steps = 0
        for rules, most, weights in FALLING_BOOKS:
            Book(rules, most)
            for rule in rules:
                self.assertTrue(falls(rule, weights))
            for round_number in range(12):
                web = pieced(chance, rules, chance.randrange(1, 4))
                steps += self.assert_ends_alike(web, rules, weights, [some_hand(chance) for k in range(4)])
        self.assertGreater(steps, 200)

    def test_all_ways_of_going_on(self):
        chance = random.Random(281)
        ways = 0
        for rules, most, weights in FALLING_BOOKS:
            for round_number in range(10):
                web = pieced(chance, rules, chance.randrange(1, 3))
                ends = all_ends(web, rules)
                ways += len(ends)
                for number, end in ends:
                    self.assertLessEqual(number, slow_weight(web, weights))
                    self.assertTrue(are_alike(ends[0][1], end, []))
        self.assertGreater(ways, 300)

    def test_drawn_books(self):
        chance = random.Random(283)
        counts = {"books": 0, "steps": 0, "choices": 0}
        for round_number in range(500):
            web = some_web(chance, chance.randrange(2, 6), chance.randrange(5), "xxxy", "kkkl")
            weights, rules = some_falling_rules(chance, web, chance.randrange(1, 3))
            try:
                book = Book(rules, chance.randrange(3))
            except Open:
                continue
            ones = stepped(web, rules, "n.")
            others = stepped(web, rules, "o.")
            for one in ones[:4]:
                for other in others[:4]:
                    way, other_way, alike = book.meet(web, one, other)
                    end = gone_through(done(web, one), way)[-1]
                    other_end = gone_through(done(web, other), other_way)[-1]
                    self.assertEqual(alike, likeness(end, other_end, alike))
            counts["books"] += len(rules) > 0
            counts["choices"] += len(ones) > 1
            counts["steps"] += self.assert_ends_alike(web, rules, weights, [some_hand(chance) for k in range(4)])
        self.assertGreater(min(counts.values()), 40, counts)

    def test_ends_may_be_unlike_where_the_rules_are_no_book(self):
        rules = DIAMOND[:2]
        self.assertRaises(Open, Book, rules, 3)
        ends = [ended(({"a": "x"}, {}), rules, {"x": 1}, lambda number, told: place)[1] for place in range(2)]
        self.assertEqual([{"n0.q": "y"}, {"n0.q": "z"}], [end[0] for end in ends])
        self.assertIsNone(likeness(ends[0], ends[1]))


if __name__ == "__main__":
    unittest.main()
