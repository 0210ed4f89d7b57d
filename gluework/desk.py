"""A desk: a web, rules by names and weights, told and asked by rows of words."""

from gluework.apart import clash
from gluework.ends import ended
from gluework.errors import NoMatch, NoRow, NoRule
from gluework.matches import matches
from gluework.meetings import looked_through
from gluework.overlaps import overlaps
from gluework.steps import named_step
from gluework.texts import match_shown, rule_read, rule_shown, web_read, web_shown
from gluework.webs import is_kind, is_text_of
from gluework.workshop import Workshop

FIGURES = "0123456789"
MOST_FIGURES = 60

# What follows the first word. A text may hold blanks and may be nothing; names are one or more.
ROWS = {
    "web": ("text",),
    "rule": ("name", "text"),
    "show": (),
    "matches": ("name",),
    "do": ("name", "number"),
    "undo": (),
    "apart": ("name", "number", "name", "number"),
    "overlaps": ("name", "name"),
    "meet": ("most", "names"),
    "weigh": ("kind", "number"),
    "end": ("names",),
}


def is_number(word):
    """Whether the word is a number written by figures, without a 0 ahead of others."""
    return is_text_of(word, FIGURES, MOST_FIGURES) and (word == "0" or word[0] != "0")


def is_word(word, asked):
    """Whether the word may stand where a row asks for such a one."""
    if asked == "number":
        return is_number(word)
    if asked == "most":
        return word in ("0", "1", "2", "3")
    if asked == "kind":
        return is_kind(word)
    # Whether a name is one, and a text a web's or a rule's, is asked later on.
    return asked == "text" or word != ""


def sorts_of(first, count):
    """The sorts of the words that follow the first one, where these are so many, names told one by one."""
    sorts = list(ROWS[first])
    if "names" in sorts:
        sorts.extend(["names" for number in range(count - len(sorts))])
    return sorts


def words_of(row):
    """The words of a row, of any kind; refused with NoRow where it is none."""
    if not isinstance(row, str):
        raise NoRow("this is no text")
    first = row.partition(" ")[0]
    if first not in ROWS:
        raise NoRow("no row begins so")
    words = row.split(" ", len(ROWS[first])) if "text" in ROWS[first] else row.split(" ")
    sorts = sorts_of(first, len(words) - 1)
    if len(words) - 1 != len(sorts):
        raise NoRow("this row has another count of words")
    if not all([is_word(word, asked) for word, asked in zip(words[1:], sorts)]):
        raise NoRow("a word of this row is none that may stand there")
    return words


def first_one(number, told):
    """The hand that always picks the first one."""
    return 0


class Desk:
    """A web, at first without things, rules by names, and weights of kinds."""

    def __init__(self):
        self.bench = Workshop(({}, {}), [])
        self.named = {}
        self.weights = {}

    def say(self, row):
        """The answer to a row; refused with NoRow, then with NoRule, NoText, NoMatch, then as what it asks for is."""
        words = words_of(row)
        first = words[0]
        if first == "web":
            return self.lay(web_read(words[1]))
        if first == "rule":
            return self.name_rule(words[1], words[2])
        if first == "show":
            return web_shown(self.bench.web())
        if first == "matches":
            return self.matches_told(self.rule_of(words[1]))
        if first == "do":
            return self.deed_done(self.rule_of(words[1]), words[2])
        if first == "undo":
            return web_shown(self.bench.undo())
        if first == "apart":
            return self.apart_told(self.rules_of([words[1], words[3]]), words[2], words[4])
        if first == "overlaps":
            return self.overlaps_told(self.rules_of(words[1:]))
        if first == "meet":
            return self.meet_told(int(words[1]), words[2:])
        if first == "weigh":
            return self.weigh(words[1], int(words[2]))
        return self.end_told(self.rules_of(words[1:]))

    def lay(self, web):
        """This web is the desk's from now on, and nothing can be undone."""
        self.bench = Workshop(web, [])
        return web_shown(web)

    def name_rule(self, name, text):
        """The rule of this text stands by the name from now on; refused with NoRule, then with NoText."""
        # The names of rules have the form of kinds, 1 to 8 small letters.
        if not is_kind(name):
            raise NoRule("this is no name of a rule")
        self.named[name] = rule_read(text)
        return rule_shown(self.named[name])

    def rule_of(self, name):
        """The rule that stands by the name; refused with NoRule."""
        if name not in self.named:
            raise NoRule("no rule has this name")
        return self.named[name]

    def rules_of(self, names):
        """The rules that stand by the names; refused with NoRule."""
        return [self.rule_of(name) for name in names]

    def match_of(self, rule, number):
        """The match of this number of the rule's left in the web; refused with NoMatch."""
        told = matches(rule[0], self.bench.web())
        if int(number) >= len(told):
            raise NoMatch("there is no match of this number")
        return told[int(number)]

    def matches_told(self, rule):
        """How many matches the rule's left has in the web, and each one on a line."""
        told = matches(rule[0], self.bench.web())
        return "\n".join([str(len(told))] + [match_shown(rule[0], match) for match in told])

    def deed_done(self, rule, number):
        """Does the step by the match of this number."""
        return web_shown(self.bench.deed_by(rule, self.match_of(rule, number), "n"))

    def apart_told(self, rules, number, other_number):
        """Whether the steps of both rules by the matches of these numbers are apart, or what disturbs one of them."""
        match = self.match_of(rules[0], number)
        other_match = self.match_of(rules[1], other_number)
        one = named_step(rules[0], match, "x.")
        why = clash(self.bench.web(), one, named_step(rules[1], other_match, "y."))
        return "apart" if why is None else why[0] + " " + str(why[1])

    def overlaps_told(self, rules):
        """How many overlaps the lefts of both rules have."""
        return str(len(overlaps(rules[0][0], rules[1][0])))

    def meet_told(self, most, names):
        """How many splits the rules have, which all meet again, or the names of both rules of one that does not."""
        told = looked_through(self.rules_of(names), most)
        if told[0] == "open":
            return " ".join([told[0], names[told[1]], names[told[2]]])
        return told[0] + " " + str(len(told[1]))

    def weigh(self, kind, weight):
        """The kind weighs so much from now on."""
        self.weights[kind] = weight
        return "ok"

    def end_told(self, rules):
        """Ends the web by the rules, lays the web behind it, and tells in how many steps."""
        told = ended(self.bench.web(), rules, self.weights, first_one, "z")
        return str(len(told[0])) + " " + self.lay(told[1])
