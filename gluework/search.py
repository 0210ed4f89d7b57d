"""The search for rows of steps from two webs to alike ones."""

from gluework.counts import all_kinds, counted, hopes, layers, move_of, moved
from gluework.errors import Loose
from gluework.forms import form, likeness_by_looks
from gluework.matches import matches
from gluework.rows import row_copied
from gluework.rules import fresh_of, taken
from gluework.steps import done, named_step, taken_out


class Spot:
    """A web that a row leads to, the row, the web's counts, and its form, by which alike webs are found."""

    def __init__(self, web, steps, counts, points):
        told = form(web, points)
        self.end = web
        self.steps = steps
        self.counts = counts
        self.shape = told[0]
        self.looks = told[1]
        self.is_told_by_looks = len(set(list(told[1].values()))) == len(told[1])


class Side:
    """The webs that rows from one web lead to, of alike ones just the first."""

    def __init__(self, start, mark, points, hopeful):
        self.mark = mark
        self.points = points
        self.hopeful = hopeful
        self.reached = {}
        self.last = []
        self.take(start)

    def take(self, spot):
        """Keeps a spot, from which rows may go on."""
        self.reached.setdefault(spot.shape, []).append(spot)
        self.last.append(spot)

    def alike(self, spot):
        """The spot kept here whose web is like this one's, or None."""
        for other in self.reached.get(spot.shape, []):
            if spot.is_told_by_looks or likeness_of(other, spot, self.points) is not None:
                return other
        return None


def likeness_of(spot, other, points):
    """A likeness that leaves these points as they are, of the webs of two spots of the same shape, or None."""
    return likeness_by_looks(spot.end, other.end, spot.looks, other.looks, points)


def web_behind(web, step, points):
    """The web behind the step, or None where it would take out one of the points or leave a tie loose."""
    if any([name in points for name in taken_out(step)]):
        return None
    try:
        return done(web, step)
    except Loose:
        return None


def effective(rule):
    """The names of left on which the web behind a step hangs: what is taken out, and the ends of new ties."""
    names = taken(rule)
    for name in fresh_of(rule):
        if name in rule[1][1]:
            names.extend([end for end in rule[1][1][name][1:] if end in rule[0][0]])
    return names


def unlike_matches(rule, web):
    """The matches of the rule's left in the web, but of those by which the same would be done just the first."""
    names = effective(rule)
    told = {}
    for match in matches(rule[0], web):
        told.setdefault(tuple([match[name] for name in names]), match)
    return list(told.values())


def next_spots(spot, rule, counts, side):
    """The spots behind this one by a step of the rule, where there is hope for webs of these counts."""
    number = len(spot.steps)
    if counts not in side.hopeful[number + 1]:
        return []
    mark = side.mark + str(number) + "."
    told = []
    for match in unlike_matches(rule, spot.end):
        step = named_step(rule, match, mark)
        web = web_behind(spot.end, step, side.points)
        if web is not None:
            told.append(Spot(web, spot.steps + [step], counts, side.points))
    return told


def gone_on(side, other, moving):
    """Goes a step farther on a side; told are the first alike spots of it and of the other one, or None."""
    begun = list(side.last)
    side.last = []
    for spot in begun:
        for rule, move in moving:
            for found in next_spots(spot, rule, moved(spot.counts, move), side):
                # From alike webs rows lead to alike webs: the one that was reached first is enough.
                if side.alike(found) is None:
                    side.take(found)
                    there = other.alike(found)
                    if there is not None:
                        return (found, there)
    return None


def first_met(one, other, moving, most):
    """The first alike spots of both sides, by rows of at most most steps each, or None."""
    start = one.last[0]
    there = other.alike(start)
    met = None if there is None else (start, there)
    for number in range(most):
        if met is None:
            met = gone_on(one, other, moving)
        if met is None:
            turned_met = gone_on(other, one, moving)
            met = None if turned_met is None else (turned_met[1], turned_met[0])
    return met


def met_within(rules, web, other, points, most):
    """The first alike spots by rows from web and from other, of at most most steps each, or None."""
    kinds = all_kinds([web, other] + [rule[0] for rule in rules] + [rule[1] for rule in rules])
    moving = [(rule, move_of(rule, kinds)) for rule in rules]
    moves = sorted(set([move for rule, move in moving]))
    own = layers(counted(web, kinds), moves, most)
    others = layers(counted(other, kinds), moves, most)
    side = Side(Spot(web, [], own[0][0], points), "e", points, hopes(own, others, moves))
    other_side = Side(Spot(other, [], others[0][0], points), "f", points, hopes(others, own, moves))
    return first_met(side, other_side, moving, most)


def met_again(rules, web, other, points, most):
    """Rows from both webs, of at most most steps each, to alike webs, and a likeness of these; or None."""
    for limit in range(most + 1):
        # Many splits meet at once, and rows without steps need no rules, which would all have to be counted.
        met = met_within(rules if limit > 0 else [], web, other, points, limit)
        if met is not None:
            return (row_copied(met[0].steps), row_copied(met[1].steps), likeness_of(met[0], met[1], points))
    return None
