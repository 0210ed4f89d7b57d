"""Meetings: rows of steps by which the two steps of a split meet again."""

from gluework.search import met_again
from gluework.splits import refuse_bars, split_steps, splits
from gluework.steps import done, taken_out


def kept_points(web, one, other):
    """The points of the web that both steps keep."""
    out = taken_out(one) + taken_out(other)
    return [name for name in sorted(web[0]) if name not in out]


def meeting(rules, i, j, pairs, most):
    """A meeting of a split of rules i and j with rows of at most most steps, or None; refused with HasBars."""
    refuse_bars(rules)
    told = split_steps(rules[i], rules[j], pairs)
    points = kept_points(told[0], told[1], told[2])
    return met_again(rules, done(told[0], told[1]), done(told[0], told[2]), points, most)


def looked_through(rules, most=1):
    """("meet", all splits with their meetings), or ("open", i, j, overlap), the first without; refused with HasBars."""
    refuse_bars(rules)
    told = []
    for i in range(len(rules)):
        for j in range(i, len(rules)):
            for pairs in splits(rules[i], rules[j]):
                met = meeting(rules, i, j, pairs, most)
                if met is None:
                    return ("open", i, j, pairs)
                told.append((i, j, pairs, met))
    return ("meet", told)
