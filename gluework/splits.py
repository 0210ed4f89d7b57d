"""Splits: overlaps of two rules' lefts in which a step by the one disturbs a step by the other."""

from gluework.apart import clash
from gluework.errors import GlueError, HasBars
from gluework.overlaps import overlap_web, overlaps
from gluework.rules import rule_copied
from gluework.steps import named_step


def refuse_bars(rules):
    """Refuses with HasBars where one of the rules has bars."""
    if any([len(rule[2]) > 0 for rule in rules]):
        raise HasBars("a rule has bars")


def split_steps(rule, other, pairs):
    """The overlap web and both rules' steps in it; refused with HasBars, then with NoOverlap."""
    refuse_bars([rule, other])
    told = overlap_web(rule[0], other[0], pairs)
    one = named_step(rule_copied(rule), told[1], "c.")
    return (told[0], one, named_step(rule_copied(other), told[2], "d."))


def is_split(rule, other, pairs):
    """Whether both rules' steps in the overlap web can be done and are not apart."""
    told = split_steps(rule, other, pairs)
    try:
        why = clash(told[0], told[1], told[2])
    except GlueError:
        return False
    return why is not None


def splits(rule, other):
    """The overlaps of both lefts that are splits, in order; refused with HasBars."""
    refuse_bars([rule, other])
    return [pairs for pairs in overlaps(rule[0], other[0]) if is_split(rule, other, pairs)]
