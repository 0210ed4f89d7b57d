"""Overlaps: the ways in which two webs can lie on one another."""

from gluework.errors import NoOverlap
from gluework.webs import renamed, things, united


def tie_paired(tie, paired):
    """What a tie must be to be paired with this one; an end that is not paired leaves None, which no tie has."""
    return (tie[0], paired.get(tie[1]), paired.get(tie[2]))


def names_of(named, thing):
    """The names under which a dict has this very thing."""
    return [name for name, held in named.items() if held == thing]


def point_partners(piece, other):
    """For each point of piece the points of other that it may be paired with."""
    return dict([(name, names_of(other[0], kind)) for name, kind in piece[0].items()])


def tie_partners(piece, other, paired):
    """For each tie of piece the ties of other that it may be paired with, where points are paired so."""
    return dict([(name, names_of(other[1], tie_paired(tie, paired))) for name, tie in piece[1].items()])


def pairings(partners):
    """All lists of tuples that pair some of the names, each one with an unlike one of its partners."""
    rows = [[]]
    for name in partners:
        longer = list(rows)
        for row in rows:
            used = [pair[1] for pair in row]
            longer.extend([row + [(name, partner)] for partner in partners[name] if partner not in used])
        rows = longer
    return rows


def overlaps(piece, other):
    """All overlaps of both webs, each once, in the order of lists."""
    told = []
    for points in pairings(point_partners(piece, other)):
        for ties in pairings(tie_partners(piece, other, dict(points))):
            told.append(sorted(points + ties))
    return sorted(told)


def is_pair(thing):
    """Whether thing, of any kind, is a tuple of two texts."""
    return isinstance(thing, tuple) and len(thing) == 2 and all([isinstance(name, str) for name in thing])


def is_well_paired(piece, other, paired, name):
    """Whether name is one of piece and paired with a thing of other that it may be paired with."""
    if name in piece[0]:
        return other[0].get(paired[name]) == piece[0][name]
    if name in piece[1]:
        return other[1].get(paired[name]) == tie_paired(piece[1][name], paired)
    return False


def is_overlap(piece, other, pairs):
    """Whether pairs, of any kind, is an overlap of both webs."""
    if not isinstance(pairs, list) or not all([is_pair(pair) for pair in pairs]):
        return False
    paired = dict(pairs)
    # A name of either side that is there twice leaves fewer unlike partners than pairs.
    if len(set(list(paired.values()))) != len(pairs) or pairs != sorted(pairs):
        return False
    return all([is_well_paired(piece, other, paired, name) for name in paired])


def marked(web, mark):
    """The dict from the names of a web's things to the same names with mark ahead."""
    return dict([(name, mark + name) for name in things(web)])


def overlap_web(piece, other, pairs):
    """The overlap web and the matches of piece and of other in it; refused with NoOverlap."""
    if not is_overlap(piece, other, pairs):
        raise NoOverlap("this is no overlap of both")
    match = marked(piece, "a.")
    other_match = marked(other, "b.")
    for pair in pairs:
        other_match[pair[1]] = match[pair[0]]
    return (united(renamed(piece, match), renamed(other, other_match)), match, other_match)


def overlap_of(match, other):
    """The overlap of two matches in one web: what they put to the same thing."""
    names = dict([(image, name) for name, image in other.items()])
    return sorted([(name, names[image]) for name, image in match.items() if image in names])


def lies(piece, other, pairs, match, other_match):
    """How the overlap web of two matches' overlap lies in the web in which both are."""
    told = overlap_web(piece, other, pairs)
    put = {}
    for name, image in told[1].items():
        put[image] = match[name]
    for name, image in told[2].items():
        put[image] = other_match[name]
    return dict([(name, put[name]) for name in things(told[0])])
