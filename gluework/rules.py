"""Rules: a piece to look for, what stands in its place behind a step, and what must not be there."""

from gluework.webs import copied, is_kind, is_part, is_web, things

MOST_IN_SIDE = 4
MOST_IN_BAR = 6
MOST_BARS = 3


def is_piece(thing, most):
    """Whether thing, of any kind, is a web with at most so many points and ties, and names as rules have them."""
    if not is_web(thing) or len(thing[0]) > most or len(thing[1]) > most:
        return False
    # The names in a rule have the form of kinds, 1 to 8 small letters.
    return all([is_kind(name) for name in things(thing)])


def is_same(name, left, right):
    """Whether the name stands for the same point or the same tie in both."""
    return left[0].get(name) == right[0].get(name) and left[1].get(name) == right[1].get(name)


def both(web, other):
    """The names in web that are in other, too, points in order, then ties in order."""
    return [name for name in things(web) if name in other[0] or name in other[1]]


def alone(web, other):
    """The names in web that are not in other, points in order, then ties in order."""
    return [name for name in things(web) if name not in other[0] and name not in other[1]]


def is_rule(thing):
    """Whether thing, of any kind, is a rule."""
    if not isinstance(thing, tuple) or len(thing) != 3:
        return False
    left = thing[0]
    right = thing[1]
    bars = thing[2]
    if not is_piece(left, MOST_IN_SIDE) or not is_piece(right, MOST_IN_SIDE):
        return False
    if not all([is_same(name, left, right) for name in both(left, right)]):
        return False
    if not isinstance(bars, list) or len(bars) > MOST_BARS:
        return False
    return all([is_piece(bar, MOST_IN_BAR) and is_part(left, bar) for bar in bars])


def kept(rule):
    """The names of what the rule keeps, points in order, then ties in order."""
    return both(rule[0], rule[1])


def taken(rule):
    """The names of what the rule takes out, points in order, then ties in order."""
    return alone(rule[0], rule[1])


def fresh_of(rule):
    """The names of what is new by the rule, points in order, then ties in order."""
    return alone(rule[1], rule[0])


def turned(rule):
    """The rule turned, which does its steps back: right, left and no bars."""
    return (copied(rule[1]), copied(rule[0]), [])


def rule_copied(rule):
    """A new rule, the same as this one."""
    return (copied(rule[0]), copied(rule[1]), [copied(bar) for bar in rule[2]])
