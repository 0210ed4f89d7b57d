"""Forms, which alike webs share: what the search for meetings takes for alike is so."""

import random
import unittest

from gluework.forms import form, likeness_by_looks
from samples import EMPTY, RICH, Unchanged, are_alike, assert_likeness, names_in_order, ring, some_web, turned_about


def renamed_by_chance(chance, web, points):
    """The web with all but these points renamed."""
    names = [name for name in names_in_order(web) if name not in points]
    news = [f"new{k}" for k in range(len(names))]
    chance.shuffle(news)
    put = dict(zip(names, news), **{name: name for name in points})
    told = (
        {put[name]: kind for name, kind in web[0].items()},
        {put[name]: (kind, put[start], put[end]) for name, (kind, start, end) in web[1].items()},
    )
    return turned_about(told)


class Forms(unittest.TestCase):
    def told_likeness(self, web, other, points):
        """The likeness that the forms lead to, or None."""
        with Unchanged(self, web, other, points):
            text, looks = form(web, points)
            other_text, other_looks = form(other, points)
            self.assertEqual(set(web[0]), set(looks))
            return likeness_by_looks(web, other, looks, other_looks, points) if text == other_text else None

    def assert_alike(self, told, web, other, points):
        found = self.told_likeness(web, other, points)
        self.assertIs(told, found is not None)
        if told:
            assert_likeness(self, web, other, found, points)

    def test_by_hand(self):
        loop = ({"a": "x"}, {"t": ("k", "a", "a")})
        there = ({"a": "x", "b": "x"}, {"t": ("k", "a", "b"), "u": ("k", "b", "a")})
        loops = ({"a": "x", "b": "x"}, {"t": ("k", "a", "a"), "u": ("k", "b", "b")})
        webs = [EMPTY, ({"a": "x"}, {}), ({"a": "y"}, {}), loop, there, loops, RICH, ({"a": "x", "b": "x"}, {})]
        for k, web in enumerate(webs):
            for n, other in enumerate(webs):
                self.assert_alike(k == n, web, other, [])
                self.assertIs(k == n, form(web, [])[0] == form(other, [])[0])

    def test_unlike_webs_by_what_lies_around_their_points(self):
        points = {name: "x" for name in "abcdef"}
        for rows, others in [
            (["ab", "cd"], ["ab", "cb"]), (["ab", "cd"], ["ab", "ac"]), (["ab", "bc"], ["ab", "cb"]),
            (["ab", "cd", "de", "ef"], ["ab", "bc", "de", "ef"]), (["ab", "ba", "cc"], ["aa", "bb", "cc"]),
            (["ab", "ab"], ["ab", "cd"]), (["ab", "bc", "cd", "ea"], ["ab", "bc", "cd", "eb"]),
        ]:
            web, other = [
                (points, {f"t{k}": ("k", *row) for k, row in enumerate(told)}) for told in (rows, others)
            ]
            self.assertNotEqual(form(web, [])[0], form(other, [])[0], (rows, others))
            self.assertEqual(form(web, [])[0], form(renamed_by_chance(random.Random(2), web, []), [])[0])

    def test_points_that_stay(self):
        web = ({"a": "x", "b": "x"}, {"t": ("k", "a", "b")})
        turned = ({"a": "x", "b": "x"}, {"t": ("k", "b", "a")})
        self.assert_alike(True, web, turned, [])
        self.assert_alike(False, web, turned, ["a", "b"])
        self.assert_alike(False, web, turned, ["a"])
        self.assertEqual(form(web, [])[0], form(turned, [])[0])
        self.assertNotEqual(form(web, ["a"])[0], form(turned, ["a"])[0])
        self.assert_alike(True, web, web, ["a", "b"])

    def test_rings_which_look_the_same_from_each_point(self):
        two = ring(["a", "b", "c"])
        other = ring(["d", "e", "f"], mark="u")
        two = ({**two[0], **other[0]}, {**two[1], **other[1]})
        one = ring(["a", "c", "e", "b", "d", "f"])
        self.assertEqual(form(two, [])[0], form(one, [])[0])
        self.assert_alike(False, two, one, [])
        self.assert_alike(False, one, two, [])
        self.assert_alike(True, one, ring(["f", "e", "d", "c", "b", "a"]), [])
        self.assert_alike(True, two, renamed_by_chance(random.Random(1), two, ["b"]), ["b"])

    def test_drawn_webs(self):
        chance = random.Random(149)
        counts = {True: 0, False: 0}
        for round_number in range(600):
            web = some_web(chance, chance.randrange(6), chance.randrange(6), "xxy", "kkl")
            points = chance.sample(sorted(web[0]), min(len(web[0]), chance.randrange(3)))
            self.assert_alike(True, web, renamed_by_chance(chance, web, points), points)
            ties = {name: chance.choice([tie, tie, (tie[0], tie[2], tie[1])]) for name, tie in web[1].items()}
            other = renamed_by_chance(chance, (web[0], ties), points)
            told = are_alike(web, other, points)
            counts[told] += 1
            self.assert_alike(told, web, other, points)
        self.assertGreater(min(counts.values()), 100)

    def test_large_webs_with_many_likenesses(self):
        chance = random.Random(151)
        points = {f"p{k}": "x" for k in range(20)}
        ties = {f"t{k}": ("k", f"p{k}", f"p{k + 10}") for k in range(10)}
        for web in [(points, {}), (points, ties), ring(sorted(points))]:
            self.assert_alike(True, web, renamed_by_chance(chance, web, []), [])
            self.assert_alike(True, web, renamed_by_chance(chance, web, ["p3", "p13"]), ["p3", "p13"])


if __name__ == "__main__":
    unittest.main()
