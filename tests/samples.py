"""Webs, spoiled things and slow but plain searches that several tests use."""

import itertools
import re

from gluework.matches import matches

ODD_THINGS = [
    None, True, False, 0, 1, -3, 10 ** 30, 1.5, float("nan"), "", "a", "a web", b"a", [], [1], ["a", "b"],
    (), (1,), (1, 2), ("a", "b"), ("a", "b", "c"), {}, {"a": "b"}, {1: 2}, {None: None}, set(), {"a"},
    frozenset(), object(), len, ({}, []), ([], {}), [{}, {}], ({},), ({}, {}, {}, {}), ((), ()), (None, None),
    ([], [], []), (None, None, None), ({}, {}, []), [[], [], []], range(2), complex(1, 2), ValueError,
]

EMPTY = ({}, {})

# A point with a loop, two ties of one kind between the same points, one of another kind, one back.
RICH = (
    {"b": "x", "a": "x", "c.1": "y"},
    {
        "t2": ("k", "a", "b"), "t1": ("k", "a", "b"), "u": ("l", "a", "b"), "v": ("k", "b", "a"),
        "w": ("k", "c.1", "c.1"),
    },
)


def turned_about(web):
    """The same web, its things put in the other way round."""
    return tuple(dict(reversed(list(named.items()))) for named in web)


def ring(names, kind="p", tie_kind="n", mark="t"):
    """Points in a ring, each with a tie to the next one."""
    points = {name: kind for name in names}
    ties = {f"{mark}{k}": (tie_kind, name, names[(k + 1) % len(names)]) for k, name in enumerate(names)}
    return (points, ties)


def some_web(chance, points, ties, kinds="xy", tie_kinds="kl", mark=""):
    """A web drawn by chance, which is a random.Random."""
    names = [f"{mark}p{k}" for k in range(points)]
    chance.shuffle(names)
    told = {name: chance.choice(kinds) for name in names}
    tie_names = [f"{mark}t{k}" for k in range(ties if points else 0)]
    chance.shuffle(tie_names)
    return (told, {
        name: (chance.choice(tie_kinds), chance.choice(names), chance.choice(names)) for name in tie_names
    })


def some_piece(chance, web, mark="z"):
    """Some of a web's things, under other names, drawn by chance."""
    points = chance.sample(sorted(web[0]), min(len(web[0]), chance.randrange(4)))
    within = [name for name, tie in sorted(web[1].items()) if tie[1] in points and tie[2] in points]
    ties = chance.sample(within, min(len(within), chance.randrange(4)))
    news = [f"{mark}{k}" for k in range(len(points) + len(ties))]
    chance.shuffle(news)
    names = dict(zip(points + ties, news))
    return (
        {names[name]: web[0][name] for name in points},
        {names[name]: (web[1][name][0], names[web[1][name][1]], names[web[1][name][2]]) for name in ties},
    )


def names_in_order(web):
    return sorted(web[0]) + sorted(web[1])


def puts_well(piece, web, match):
    """Point 8, word for word."""
    for name, kind in piece[0].items():
        if match[name] not in web[0] or web[0][match[name]] != kind:
            return False
    for name, (kind, start, end) in piece[1].items():
        if match[name] not in web[1] or web[1][match[name]] != (kind, match[start], match[end]):
            return False
    return True


def slow_matches(piece, web):
    """All matches in the order of their lines, each way to put things to unlike things tried."""
    told = []
    names = names_in_order(piece)
    for point_row in itertools.permutations(sorted(web[0]), len(piece[0])):
        for tie_row in itertools.permutations(sorted(web[1]), len(piece[1])):
            match = dict(zip(names, point_row + tie_row))
            if puts_well(piece, web, match):
                told.append(match)
    return sorted(told, key=lambda match: [match[name] for name in names])


def does_as(match, fixed):
    return all(match[name] == image for name, image in fixed.items())


def some_rule(chance, kinds="xxy", tie_kinds="kkl", bars=0):
    """A rule drawn by chance, of small pieces, with at most so many bars."""
    letters = list("abcdefghijklmnopqrstuvwxyz")
    chance.shuffle(letters)
    points = {letters.pop(): chance.choice(kinds) for k in range(chance.randrange(4))}
    left = (points, drawn_ties(chance, letters, points, tie_kinds, chance.randrange(3)))
    kept_points = {name: kind for name, kind in points.items() if chance.randrange(3)}
    kept_ties = {
        name: tie for name, tie in left[1].items()
        if tie[1] in kept_points and tie[2] in kept_points and chance.randrange(3)
    }
    new_points = {letters.pop(): chance.choice(kinds) for k in range(chance.randrange(min(3, 5 - len(kept_points))))}
    right_points = {**kept_points, **new_points}
    new_ties = drawn_ties(chance, letters, right_points, tie_kinds, chance.randrange(4 - len(kept_ties)))
    told = []
    for k in range(chance.randrange(bars + 1)):
        more = {**points, **{letters.pop(): chance.choice(kinds) for number in range(chance.randrange(2))}}
        told.append((more, {**left[1], **drawn_ties(chance, letters, more, tie_kinds, chance.randrange(3))}))
    return (left, (right_points, {**kept_ties, **new_ties}), told)


def drawn_ties(chance, letters, points, tie_kinds, count):
    """So many ties between points (none, where there are no points), named by the last letters, which are used up."""
    names = sorted(points)
    return {
        letters.pop(): (chance.choice(tie_kinds), chance.choice(names), chance.choice(names))
        for k in range(count if points else 0)
    }


def new_names(rule, mark):
    """The dict from the names of a rule's new things to these with a mark ahead."""
    return {name: mark + name for name in names_in_order(rule[1]) if name not in names_in_order(rule[0])}


def steps_of(rule, web, mark):
    """All steps of the web by the rule, the new names being the rule's with a mark ahead."""
    every = [(rule, match, new_names(rule, mark)) for match in slow_matches(rule[0], web)]
    return [step for step in every if slow_done(web, step)[0] == "web"]


def some_row(chance, web, rules, most, mark="n"):
    """A row of at most so many steps drawn by chance, and the webs from web to that behind it."""
    row = []
    webs = [web]
    while len(row) < most:
        steps = [step for rule in rules for step in steps_of(rule, webs[-1], f"{mark}{len(row)}.")]
        if not steps:
            break
        row.append(chance.choice(steps))
        webs.append(slow_done(webs[-1], row[-1])[1])
    return row, webs


def is_texts_dict(thing, names):
    """Whether thing is a dict from just these names to texts, no two of them the same."""
    if not isinstance(thing, dict) or set(thing) != set(names):
        return False
    return all(isinstance(image, str) for image in thing.values()) and len(set(thing.values())) == len(thing)


def slow_barred(web, rule, match):
    """Point 15, word for word."""
    for number, bar in enumerate(rule[2]):
        for told in slow_matches(bar, web):
            if does_as(told, match):
                return number, told
    return None


def slow_done(web, step):
    """Points 12 and 13, word for word: ("web", the web behind the step) or (the refusal's name,)."""
    (left, right, bars), match, fresh = step
    if not is_texts_dict(match, names_in_order(left)) or not puts_well(left, web, match):
        return ("NoMatch",)
    for name in left[0]:
        for tie, (kind, start, end) in web[1].items():
            if name not in right[0] and match[name] in (start, end) and tie not in [match[one] for one in left[1]]:
                return ("Loose",)
    if slow_barred(web, step[0], match) is not None:
        return ("Barred",)
    news = [name for name in names_in_order(right) if name not in names_in_order(left)]
    if not is_texts_dict(fresh, news):
        return ("NoNames",)
    for name in fresh.values():
        if not re.fullmatch(r"[a-z][a-z0-9.]{0,23}", name) or name in names_in_order(web):
            return ("NoNames",)
    gone = [match[name] for name in names_in_order(left) if name not in names_in_order(right)]
    points = {name: kind for name, kind in web[0].items() if name not in gone}
    ties = {name: tie for name, tie in web[1].items() if name not in gone}
    for name in news:
        if name in right[0]:
            points[fresh[name]] = right[0][name]
        else:
            kind, start, end = right[1][name]
            ties[fresh[name]] = (kind, fresh.get(start) or match[start], fresh.get(end) or match[end])
    return ("web", (points, ties))


def slow_clash(web, one, other):
    """Point 17, word for word."""
    names = [name for name in one[2].values() if name in other[2].values()]
    if names:
        return ("names", min(names))
    gone = []
    for step in (one, other):
        rule, match, fresh = step
        taken = [name for web_of in rule[0] for name in web_of if name not in rule[1][0] and name not in rule[1][1]]
        gone.extend(match[name] for name in taken)
    both = [name for name in one[1].values() if name in other[1].values() and name in gone]
    if both:
        return ("gone", min(both))
    if slow_barred(slow_done(web, other)[1], one[0], one[1]) is not None:
        return ("barred", 0)
    if slow_barred(slow_done(web, one)[1], other[0], other[1]) is not None:
        return ("barred", 1)
    return None


def some_pairings(names, others):
    """All ways to pair some of the names with unlike ones of the others."""
    for count in range(min(len(names), len(others)) + 1):
        for some in itertools.combinations(names, count):
            for images in itertools.permutations(others, count):
                yield list(zip(some, images))


def pairs_well(piece, other, pairs):
    """Whether each of the pairs is one as point 19 asks for, word for word."""
    paired = dict(pairs)
    for name, image in pairs:
        if name in piece[0]:
            if image not in other[0] or other[0][image] != piece[0][name]:
                return False
        else:
            kind, start, end = piece[1][name]
            if image not in other[1] or other[1][image][0] != kind:
                return False
            if (start, other[1][image][1]) not in pairs or (end, other[1][image][2]) not in pairs:
                return False
    return len(paired) == len(pairs)


def slow_overlaps(piece, other):
    """All overlaps in order, each way to pair points and ties tried."""
    ties = list(some_pairings(sorted(piece[1]), sorted(other[1])))
    told = []
    for points in some_pairings(sorted(piece[0]), sorted(other[0])):
        told.extend(sorted(points + some) for some in ties if pairs_well(piece, other, points + some))
    return sorted(told)


def slow_split_steps(rule, other, pairs):
    """The overlap web of point 20 and the steps of point 22, word for word."""
    first = {name: f"a.{name}" for name in names_in_order(rule[0])}
    paired = {two: one for one, two in pairs}
    second = {name: f"a.{paired[name]}" if name in paired else f"b.{name}" for name in names_in_order(other[0])}
    points = {}
    ties = {}
    for piece, put in ((rule[0], first), (other[0], second)):
        points.update({put[name]: kind for name, kind in piece[0].items()})
        ties.update({put[name]: (kind, put[start], put[end]) for name, (kind, start, end) in piece[1].items()})
    return (points, ties), (rule, first, new_names(rule, "c.")), (other, second, new_names(other, "d."))


def slow_splits(rule, other):
    """Point 22, word for word: all overlaps whose steps can be done and are not apart."""
    told = []
    for pairs in slow_overlaps(rule[0], other[0]):
        web, one, two = slow_split_steps(rule, other, pairs)
        if slow_done(web, one)[0] == "web" and slow_done(web, two)[0] == "web" and slow_clash(web, one, two):
            told.append(pairs)
    return told


def taken_by(step):
    """What a step takes out of its web."""
    (left, right, bars), match, fresh = step
    return [match[name] for name in names_in_order(left) if name not in names_in_order(right)]


def ends_of(web, rules, kept, most):
    """The webs behind all rows of at most so many steps by the rules that keep these points, each row tried."""
    told = [web]
    last = [web]
    for number in range(most):
        ahead = last
        last = []
        for begun in ahead:
            for rule in rules:
                for match in matches(rule[0], begun):
                    step = (rule, match, new_names(rule, f"s{number}."))
                    if not set(taken_by(step)) & set(kept) and slow_done(begun, step)[0] == "web":
                        last.append(slow_done(begun, step)[1])
        told.extend(last)
    return told


def are_alike(web, other, kept):
    """Whether there is a likeness that puts these points to themselves, each way to put the other points tried."""
    if [sorted(one[0].values()) for one in (web, other)].count(sorted(web[0].values())) != 2:
        return False
    if len(web[1]) != len(other[1]):
        return False
    free = sorted(set(web[0]) - set(kept))
    ties = sorted(other[1].values())
    for row in itertools.permutations(sorted(set(other[0]) - set(kept)), len(free)):
        put = dict(zip(free, row), **{name: name for name in kept})
        if all(other[0][put[name]] == kind for name, kind in web[0].items()):
            if sorted((kind, put[start], put[end]) for kind, start, end in web[1].values()) == ties:
                return True
    return False


def slow_meets(rules, i, j, pairs, most):
    """Whether a split has a meeting by point 23, all rows of at most so many steps tried."""
    web, one, other = slow_split_steps(rules[i], rules[j], pairs)
    kept = set(web[0]) - set(taken_by(one)) - set(taken_by(other))
    ends, others = [ends_of(slow_done(web, step)[1], rules, kept, most) for step in (one, other)]
    return any(are_alike(end, other_end, kept) for end in ends for other_end in others)


def gone_well(case, web, row, rules, kept, new_name):
    """The web behind a row, which is gone through by steps of these rules alone that keep what is told."""
    case.assertIsInstance(row, list)
    for step in row:
        case.assertIsInstance(step, tuple)
        case.assertIn(step[0], rules)
        told = slow_done(web, step)
        case.assertEqual("web", told[0])
        case.assertEqual(set(), set(taken_by(step)) & set(kept))
        for name in step[2].values():
            case.assertRegex(name, new_name)
        web = told[1]
    return web


def assert_likeness(case, web, other, likeness, kept):
    """It is a match of web in other to all of whose things something is put, and these are put to themselves."""
    case.assertTrue(is_texts_dict(likeness, names_in_order(web)))
    case.assertTrue(puts_well(web, other, likeness))
    case.assertEqual(sorted(names_in_order(other)), sorted(likeness.values()))
    for name in kept:
        case.assertEqual(name, likeness[name])


def slow_choices(web, rules):
    """The list of point 27, word for word: each match of each rule tried, with names that the web has not."""
    told = []
    for number, rule in enumerate(rules):
        for match in slow_matches(rule[0], web):
            if slow_done(web, (rule, match, new_names(rule, "free.")))[0] == "web":
                told.append((number, match))
    return told


def slow_ended(web, rules, hand, mark):
    """The ending of point 27, word for word, where nothing is refused."""
    row = []
    while slow_choices(web, rules):
        told = slow_choices(web, rules)
        number, match = told[hand(len(row), told) % len(told)]
        row.append((rules[number], match, new_names(rules[number], f"{mark}{len(row)}.")))
        web = slow_done(web, row[-1])[1]
    return row, web


def slow_weight(web, weights):
    """Point 26, word for word."""
    return sum(weights.get(kind, 0) for kind in [*web[0].values(), *(tie[0] for tie in web[1].values())])


def some_falling_rules(chance, web, most, bars=0):
    """Weights and at most so many rules that fall by them, which most often can be done in web, drawn by chance."""
    weights = {kind: chance.choice([0, 1, 2, 3]) for kind in "xykl" if chance.randrange(8)}
    drawn = [some_rule(chance, "xxxy", "kkkl", bars) for k in range(100)]
    falling = [rule for rule in drawn if slow_weight(rule[1], weights) < slow_weight(rule[0], weights)]
    ready = [rule for rule in falling if slow_choices(web, [rule])]
    told = (ready[:most] + falling)[:most]
    chance.shuffle(told)
    return weights, told


class Unchanged:
    """Asks, behind a with-block, whether the things handed in are what they were, order and all."""

    def __init__(self, case, *handed):
        self.case = case
        self.handed = handed
        self.ahead = repr(handed)

    def __enter__(self):
        return self

    def __exit__(self, *what):
        self.case.assertEqual(self.ahead, repr(self.handed))
        return False
