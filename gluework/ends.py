"""Ends: the rules are done as long as any of them can be, each step making the web lighter."""

from gluework.errors import GlueError, NoFall, NoNames
from gluework.matches import matches
from gluework.rules import rule_copied
from gluework.steps import done, named_step, rest_of, step_copied
from gluework.webs import copied, is_mark, things
from gluework.weights import falls


def can_be_done(web, rule, match):
    """Whether a step by this match can be done, however its new things are called."""
    try:
        rest_of(web, (rule, match, {}))
    except GlueError:
        return False
    return True


def choices(web, rules):
    """All tuples (number of the rule, match) by which one can be done, in the order of rules, then of matches."""
    told = []
    for number, rule in enumerate(rules):
        told.extend([(number, match) for match in matches(rule[0], web) if can_be_done(web, rule, match)])
    return told


def refuse_mark(web, mark):
    """Refuses with NoNames a mark that is none, of any kind, and one with which a name of the web begins."""
    if not is_mark(mark):
        raise NoNames("this is no mark")
    if any([name.startswith(mark) for name in things(web)]):
        raise NoNames("a name in the web begins with this mark")


def picked_by(hand, number, told):
    """The one of what can be done that the hand picks for the step of this number."""
    # The hand has a list of its own, as long as ours until it does something to it.
    own = [(rule_number, dict(match)) for rule_number, match in told]
    return told[hand(number, own) % len(told)]


def ended(web, rules, weights, hand, mark="n"):
    """The row of steps by which the web is ended, and the web behind it; refused with NoNames, then with NoFall."""
    refuse_mark(web, mark)
    if not all([falls(rule, weights) for rule in rules]):
        raise NoFall("a rule does not make a web lighter")
    # The hand may do anything to what was handed in.
    own_rules = [rule_copied(rule) for rule in rules]
    end = copied(web)
    row = []
    told = choices(end, own_rules)
    while told:
        number = len(row)
        picked = picked_by(hand, number, told)
        step = named_step(own_rules[picked[0]], picked[1], f"{mark}{number}.")
        end = done(end, step)
        row.append(step_copied(step))
        told = choices(end, own_rules)
    return (row, end)
