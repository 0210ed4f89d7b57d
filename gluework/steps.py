"""Steps: a rule, where in a web it is done, and the names of what is new."""

from gluework.errors import Barred, NoMatch, NoNames
from gluework.matches import first_match, is_match
from gluework.rules import fresh_of, kept, rule_copied, taken, turned
from gluework.webs import is_name, renamed, things, united, without


def picked(put, names):
    """The dict from these names, in this order, to what put puts them to."""
    return dict([(name, put[name]) for name in names])


def barred(web, rule, match):
    """The least bar by which match cannot be: (its number, its first match that does as match does), or None."""
    for number, bar in enumerate(rule[2]):
        told = first_match(bar, web, match)
        if told is not None:
            return (number, told)
    return None


def taken_out(step):
    """The names of the web's things that the step takes out."""
    return [step[1][name] for name in taken(step[0])]


def names_serve(web, rule, fresh):
    """Whether fresh, of any kind, gives each new thing of the rule, and nothing else, a name that web has not."""
    names = fresh_of(rule)
    if not isinstance(fresh, dict) or len(fresh) != len(names):
        return False
    if not all([is_name(fresh.get(name)) for name in names]):
        return False
    if len(set(list(fresh.values()))) != len(names):
        return False
    return not any([name in web[0] or name in web[1] for name in fresh.values()])


def rest_of(web, step):
    """The web without what the step takes out; refused by the first of NoMatch, Loose, Barred that is due."""
    rule = step[0]
    if not is_match(rule[0], web, step[1]):
        raise NoMatch("this is no match of the rule's left in the web")
    # Refuses with Loose, just where it is due: a tie of left that ends at a point that goes, goes with it.
    rest = without(web, taken_out(step))
    if barred(web, rule, step[1]) is not None:
        raise Barred("a bar of the rule lies there")
    return rest


def done(web, step):
    """The web behind the step; refused by the first of NoMatch, Loose, Barred, NoNames that is due."""
    rule = step[0]
    rest = rest_of(web, step)
    if not names_serve(web, rule, step[2]):
        raise NoNames("these are no names for the new things")
    return united(rest, renamed(rule[1], behind(step)))


def behind(step):
    """The match behind the step: where right's things are then."""
    rule = step[0]
    put = picked(step[1], kept(rule))
    put.update(picked(step[2], fresh_of(rule)))
    return picked(put, things(rule[1]))


def back(step):
    """The step that leads back from behind this one."""
    return (turned(step[0]), behind(step), picked(step[1], taken(step[0])))


def named_step(rule, match, mark):
    """The step by this match, the names of its new things being the rule's with mark ahead."""
    return (rule, match, dict([(name, mark + name) for name in fresh_of(rule)]))


def step_copied(step):
    """A new step, the same as this one."""
    rule = step[0]
    return (rule_copied(rule), picked(step[1], things(rule[0])), picked(step[2], fresh_of(rule)))
