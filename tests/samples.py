"""Webs, spoiled things and slow but plain searches that several tests use."""

import itertools

ODD_THINGS = [
    None, True, False, 0, 1, -3, 10 ** 30, 1.5, float("nan"), "", "a", "a web", b"a", [], [1], ["a", "b"],
    (), (1,), (1, 2), ("a", "b"), ("a", "b", "c"), {}, {"a": "b"}, {1: 2}, {None: None}, set(), {"a"},
    frozenset(), object(), len, ({}, []), ([], {}), [{}, {}], ({},), ({}, {}, {}, {}), ((), ()), (None, None),
    ([], [], []), (None, None, None), ({}, {}, []), [[], [], []], range(2), complex(1, 2), ValueError,
]

EMPTY = ({}, {})

# A point with a loop, two ties of one kind between the same points, one of another kind, one back.
RICH = (
    {"b": "x", "a": "x", "c.1": "y"},
    {
        "t2": ("k", "a", "b"), "t1": ("k", "a", "b"), "u": ("l", "a", "b"), "v": ("k", "b", "a"),
        "w": ("k", "c.1", "c.1"),
    },
)


def turned_about(web):
    """The same web, its things put in the other way round."""
    return tuple(dict(reversed(list(named.items()))) for named in web)


def ring(names, kind="p", tie_kind="n", mark="t"):
    """Points in a ring, each with a tie to the next one."""
    points = {name: kind for name in names}
    ties = {f"{mark}{k}": (tie_kind, name, names[(k + 1) % len(names)]) for k, name in enumerate(names)}
    return (points, ties)


def some_web(chance, points, ties, kinds="xy", tie_kinds="kl", mark=""):
    """A web drawn by chance, which is a random.Random."""
    names = [f"{mark}p{k}" for k in range(points)]
    chance.shuffle(names)
    told = {name: chance.choice(kinds) for name in names}
    tie_names = [f"{mark}t{k}" for k in range(ties if points else 0)]
    chance.shuffle(tie_names)
    return (told, {
        name: (chance.choice(tie_kinds), chance.choice(names), chance.choice(names)) for name in tie_names
    })


def some_piece(chance, web, mark="z"):
    """Some of a web's things, under other names, drawn by chance."""
    points = chance.sample(sorted(web[0]), min(len(web[0]), chance.randrange(4)))
    within = [name for name, tie in sorted(web[1].items()) if tie[1] in points and tie[2] in points]
    ties = chance.sample(within, min(len(within), chance.randrange(4)))
    news = [f"{mark}{k}" for k in range(len(points) + len(ties))]
    chance.shuffle(news)
    names = dict(zip(points + ties, news))
    return (
        {names[name]: web[0][name] for name in points},
        {names[name]: (web[1][name][0], names[web[1][name][1]], names[web[1][name][2]]) for name in ties},
    )


def names_in_order(web):
    return sorted(web[0]) + sorted(web[1])


def puts_well(piece, web, match):
    """Point 8, word for word."""
    for name, kind in piece[0].items():
        if match[name] not in web[0] or web[0][match[name]] != kind:
            return False
    for name, (kind, start, end) in piece[1].items():
        if match[name] not in web[1] or web[1][match[name]] != (kind, match[start], match[end]):
            return False
    return True


def slow_matches(piece, web):
    """All matches in the order of their lines, each way to put things to unlike things tried."""
    told = []
    names = names_in_order(piece)
    for point_row in itertools.permutations(sorted(web[0]), len(piece[0])):
        for tie_row in itertools.permutations(sorted(web[1]), len(piece[1])):
            match = dict(zip(names, point_row + tie_row))
            if puts_well(piece, web, match):
                told.append(match)
    return sorted(told, key=lambda match: [match[name] for name in names])


def does_as(match, fixed):
    return all(match[name] == image for name, image in fixed.items())


class Unchanged:
    """Asks, behind a with-block, whether the things handed in are what they were, order and all."""

    def __init__(self, case, *handed):
        self.case = case
        self.handed = handed
        self.ahead = repr(handed)

    def __enter__(self):
        return self

    def __exit__(self, *what):
        self.case.assertEqual(self.ahead, repr(self.handed))
        return False
