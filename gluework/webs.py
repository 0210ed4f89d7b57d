"""Webs: named points, and named ties from point to point, each of a kind."""

from gluework.errors import Loose, NoNames, NoWeb

SMALL_LETTERS = "abcdefghijklmnopqrstuvwxyz"
NAME_SIGNS = "abcdefghijklmnopqrstuvwxyz0123456789."
MOST_NAME_SIGNS = 24
MOST_KIND_SIGNS = 8
MOST_MARK_SIGNS = 6


def is_text_of(thing, signs, most):
    """Whether thing, of any kind, is a text of 1 to most of these signs."""
    if not isinstance(thing, str) or len(thing) < 1 or len(thing) > most:
        return False
    return all([sign in signs for sign in thing])


def is_name(thing):
    """Whether thing, of any kind, is a name."""
    return is_text_of(thing, NAME_SIGNS, MOST_NAME_SIGNS) and thing[0] in SMALL_LETTERS


def is_kind(thing):
    """Whether thing, of any kind, is a kind."""
    return is_text_of(thing, SMALL_LETTERS, MOST_KIND_SIGNS)


def is_mark(thing):
    """Whether thing, of any kind, is a mark, with which new names begin."""
    return is_text_of(thing, SMALL_LETTERS, MOST_MARK_SIGNS)


def is_tie(thing, points):
    """Whether thing, of any kind, is a tie between some of these points."""
    if not isinstance(thing, tuple) or len(thing) != 3 or not is_kind(thing[0]):
        return False
    # An end that is no name may be one that no dict can look up, so that is asked first.
    return all([is_name(end) and end in points for end in thing[1:]])


def is_web(thing):
    """Whether thing, of any kind, is a web."""
    if not isinstance(thing, tuple) or len(thing) != 2:
        return False
    points = thing[0]
    ties = thing[1]
    if not isinstance(points, dict) or not isinstance(ties, dict):
        return False
    if not all([is_name(name) and is_kind(kind) for name, kind in points.items()]):
        return False
    return all([is_name(name) and name not in points and is_tie(tie, points) for name, tie in ties.items()])


def in_order(named):
    """A new dict of the same things. Its order is that of the names, so that nothing hangs on the old one's."""
    return dict([(name, named[name]) for name in sorted(named)])


def copied(web):
    """A new web, the same as this one."""
    return (in_order(web[0]), in_order(web[1]))


def checked(thing):
    """A new web, the same as thing; what is no web is refused with NoWeb."""
    if not is_web(thing):
        raise NoWeb("this is no web")
    return copied(thing)


def things(web):
    """All names, points in order, then ties in order."""
    return sorted(web[0]) + sorted(web[1])


def hold(web, name):
    """The names of the ties that come from the point or go to it, in order."""
    return sorted([tie for tie, told in web[1].items() if name in told[1:]])


def is_part(web, other):
    """Whether each thing of web is the same thing in other."""
    if not all([other[0].get(name) == kind for name, kind in web[0].items()]):
        return False
    return all([other[1].get(name) == tie for name, tie in web[1].items()])


def without(web, names):
    """The web with the things of these names taken out; refused with Loose where a tie would lose an end."""
    points = dict([(name, kind) for name, kind in web[0].items() if name not in names])
    ties = dict([(name, tie) for name, tie in web[1].items() if name not in names])
    for name in sorted(ties):
        if ties[name][1] in names or ties[name][2] in names:
            raise Loose(f"{name} is not taken out, but an end of it is")
    return copied((points, ties))


def united(web, more):
    """The things of both together, where each name that both have stands for the same thing."""
    points = dict(web[0])
    points.update(more[0])
    ties = dict(web[1])
    ties.update(more[1])
    return copied((points, ties))


def glued(web, more):
    """The web with more's points and ties glued in; refused with NoNames where web has one of the names."""
    for name in things(more):
        if name in web[0] or name in web[1]:
            raise NoNames(f"{name} is in the web already")
    return united(web, more)


def tie_renamed(tie, names):
    """The tie with its ends renamed."""
    return (tie[0], names[tie[1]], names[tie[2]])


def renamed(web, names):
    """The web with each thing under its new name."""
    points = dict([(names[name], kind) for name, kind in web[0].items()])
    ties = dict([(names[name], tie_renamed(tie, names)) for name, tie in web[1].items()])
    return copied((points, ties))
