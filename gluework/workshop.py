"""A workshop: deeds on a web, by rules, that can be undone and done again."""

from gluework.ends import choices
from gluework.errors import NoDeed, NoNames, NoRule
from gluework.rows import row_copied
from gluework.rules import rule_copied
from gluework.steps import back, done, named_step, step_copied
from gluework.webs import copied, is_mark


def is_number_below(thing, count):
    """Whether thing, of any kind, is a whole number from 0 to below count."""
    return isinstance(thing, int) and not isinstance(thing, bool) and 0 <= thing and thing < count


class Workshop:
    """A web, a list of rules, and the deeds done on the web."""

    def __init__(self, web, rules):
        self.held = copied(web)
        self.rules = [rule_copied(rule) for rule in rules]
        self.deeds = []
        self.undone = []

    def web(self):
        """The web as it is."""
        return copied(self.held)

    def row(self):
        """The row of the deeds done and not undone, from the first web on."""
        return row_copied(self.deeds)

    def choices(self):
        """All tuples (number of the rule, match) by which a rule can be done on the web as it is."""
        return choices(self.held, self.rules)

    def deed(self, number, match, mark="n"):
        """Does a step by the rule of this number; refused with NoRule, then as deed_by is."""
        if not is_number_below(number, len(self.rules)):
            raise NoRule("there is no rule of this number")
        return self.deed_by(self.rules[number], match, mark)

    def deed_by(self, rule, match, mark):
        """Does a step by any rule; refused with NoNames for a mark that is none, then as the step is."""
        if not is_mark(mark):
            raise NoNames("this is no mark")
        number = len(self.deeds)
        step = named_step(rule, match, f"{mark}{number}.")
        self.held = done(self.held, step)
        self.deeds.append(step_copied(step))
        self.undone = []
        return self.web()

    def undo(self):
        """Takes the last deed back; refused with NoDeed where there is none."""
        if not self.deeds:
            raise NoDeed("there is no deed to take back")
        step = self.deeds.pop()
        self.held = done(self.held, back(step))
        self.undone.append(step)
        return self.web()

    def redo(self):
        """Does the last deed again that was undone; refused with NoDeed where there is none."""
        if not self.undone:
            raise NoDeed("there is no deed to do again")
        step = self.undone.pop()
        self.held = done(self.held, step)
        self.deeds.append(step)
        return self.web()
