"""Texts: webs, rules and matches written, webs and rules read."""

from gluework.errors import NoText
from gluework.rules import is_rule
from gluework.webs import copied, is_web, things

NOTHING = "-"
MOST_POINTS = 40
MOST_TIES = 60


def joined(texts):
    """The texts with one blank between, or the text for nothing."""
    return " ".join(texts) if texts else NOTHING


def point_shown(name, kind):
    """A point as a text."""
    return f"{name}:{kind}"


def tie_shown(name, tie):
    """A tie as a text."""
    kind = tie[0]
    start = tie[1]
    end = tie[2]
    return f"{name}:{kind}({start},{end})"


def web_shown(web):
    """The web as a text: points in order, then ties in order."""
    points = [point_shown(name, web[0][name]) for name in sorted(web[0])]
    return joined(points + [tie_shown(name, web[1][name]) for name in sorted(web[1])])


def rule_shown(rule):
    """The rule as a text: left, right and the bars."""
    sides = web_shown(rule[0]) + " > " + web_shown(rule[1])
    return " ! ".join([sides] + [web_shown(bar) for bar in rule[2]])


def match_shown(piece, match):
    """The match as a text: what each thing of the piece is put to."""
    return joined([name + "=" + match[name] for name in things(piece)])


def thing_read(text):
    """A tuple (name, kind) or (name, (kind, from, to)), whose texts may still be anything; refused with NoText."""
    named = text.partition(":")
    told = named[2].partition("(")
    if told[1] == "":
        return (named[0], told[0])
    if not told[2].endswith(")"):
        raise NoText("a tie's ends stand between brackets")
    ends = told[2][:-1].partition(",")
    return (named[0], (told[0], ends[0], ends[2]))


def things_read(text):
    """The things of a web's text, as thing_read tells them; refused with NoText."""
    if not isinstance(text, str):
        raise NoText("this is no text")
    if text == NOTHING:
        return []
    return [thing_read(part) for part in text.split(" ")]


def web_read(text):
    """The web that a text, of any kind, tells; refused with NoText where it tells none."""
    told = things_read(text)
    points = dict([thing for thing in told if isinstance(thing[1], str)])
    ties = dict([thing for thing in told if isinstance(thing[1], tuple)])
    if len(points) + len(ties) != len(told):
        raise NoText("a name is there twice")
    if len(points) > MOST_POINTS or len(ties) > MOST_TIES:
        raise NoText("there are too many things")
    if not is_web((points, ties)):
        raise NoText("this is the text of no web")
    return copied((points, ties))


def rule_read(text):
    """The rule that a text, of any kind, tells; refused with NoText where it tells none."""
    if not isinstance(text, str):
        raise NoText("this is no text")
    sides = text.split(" > ")
    if len(sides) != 2:
        raise NoText("a rule has a left and a right")
    behind = [web_read(part) for part in sides[1].split(" ! ")]
    rule = (web_read(sides[0]), behind[0], behind[1:])
    if not is_rule(rule):
        raise NoText("this is the text of no rule")
    return rule
