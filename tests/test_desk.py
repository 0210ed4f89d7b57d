"""Point 31: the desk, row by row."""

import random
import re
import unittest

from gluework.desk import Desk
from gluework.errors import (
    Barred, GlueError, HasBars, Loose, NoDeed, NoFall, NoMatch, NoNames, NoRow, NoRule, NoText,
)
from gluework.meetings import looked_through
from gluework.rules import is_rule
from gluework.texts import match_shown, rule_shown, web_shown
from samples import (
    EMPTY, ODD_THINGS, new_names, slow_clash, slow_done, slow_ended, slow_matches, slow_overlaps, slow_weight,
    some_rule, some_web,
)
from test_texts import NO_RULES, NO_WEBS, UNRULY, slow_rule, slow_web, spoiled

NUMBER = "(0|[1-9][0-9]{0,59})"
WORD = "([^ ]+)"
FORMS = {
    "web": "web (.*)", "rule": f"rule {WORD} (.*)", "show": "show", "matches": f"matches {WORD}",
    "do": f"do {WORD} {NUMBER}", "undo": "undo", "apart": f"apart {WORD} {NUMBER} {WORD} {NUMBER}",
    "overlaps": f"overlaps {WORD} {WORD}", "meet": "meet ([0-3]) ([^ ]+(?: [^ ]+)*)",
    "weigh": f"weigh ([a-z]{{1,8}}) {NUMBER}", "end": "end ([^ ]+(?: [^ ]+)*)",
}
SWAP = "p:x > q:y"
GROW = "p:x > p:x q:x t:k(p,q)"
PRUNE = "a:x b:x t:k(a,b) > a:x"
ONCE = "a:x b:y > a:x b:y n:k(a,b) ! a:x b:y n:k(a,b)"
DROP = "p:x > -"
ADD = "- > p:x"
RULES = {"swap": SWAP, "grow": GROW, "prune": PRUNE, "once": ONCE, "drop": DROP, "add": ADD}
# A point x becomes y or z, both become w.
DIAMOND = {"xy": SWAP, "xz": "p:x > q:z", "yw": "p:y > q:w", "zw": "p:z > q:w"}
SIXTY = "9" * 60
BAD_NUMBERS = [
    "", "-1", "-0", "+1", "00", "01", "007", "1.0", "1e3", "1_0", "0x1", "a", "one", "1a", "a1", "1\n", "\t1", "1.",
    ".1",
    "1" * 61, "1" + "0" * 60, "0" * 60, "1,2", "(1)", "--1", "1-", "None", "True",
]
BAD_NAMES = [
    "A", "Swap", "swap1", "s.p", "a_b", "abcdefghi", "1", "0", "swap,", "-", "swap\n", "\tswap", "x:y", "=", ".",
]


class Refused(Exception):
    """What the slow desk refuses with."""


class SlowDesk:
    """Point 31 and the interface's rows, word for word."""

    def __init__(self):
        self.webs = [EMPTY]
        self.steps = []
        self.rules = {}
        self.weights = {}

    def say(self, row):
        for word, form in FORMS.items():
            told = re.fullmatch(form, row, re.DOTALL)
            if told is not None:
                return getattr(self, word)(*told.groups())
        raise Refused("NoRow")

    def ruled(self, *names):
        for name in names:
            if name not in self.rules:
                raise Refused("NoRule")
        return [self.rules[name] for name in names]

    def placed(self, rule, number):
        told = slow_matches(rule[0], self.webs[-1])
        if int(number) >= len(told):
            raise Refused("NoMatch")
        return told[int(number)]

    def stepped(self, step):
        told = slow_done(self.webs[-1], step)
        if told[0] != "web":
            raise Refused(told[0])
        return told[1]

    def web(self, text):
        web = slow_web(text)
        if web is None:
            raise Refused("NoText")
        self.webs = [web]
        return self.show()

    def rule(self, name, text):
        if not re.fullmatch("[a-z]{1,8}", name):
            raise Refused("NoRule")
        if slow_rule(text) is None:
            raise Refused("NoText")
        self.rules[name] = slow_rule(text)
        return rule_shown(self.rules[name])

    def show(self):
        return web_shown(self.webs[-1])

    def matches(self, name):
        rule, = self.ruled(name)
        told = slow_matches(rule[0], self.webs[-1])
        return "".join([str(len(told)), *("\n" + match_shown(rule[0], match) for match in told)])

    def do(self, name, number):
        rule, = self.ruled(name)
        step = (rule, self.placed(rule, number), new_names(rule, f"n{len(self.webs) - 1}."))
        self.webs.append(self.stepped(step))
        return self.show()

    def undo(self):
        if len(self.webs) == 1:
            raise Refused("NoDeed")
        self.webs.pop()
        return self.show()

    def apart(self, name, number, other, other_number):
        rules = self.ruled(name, other)
        places = [self.placed(rules[0], number), self.placed(rules[1], other_number)]
        steps = [(rules[k], places[k], new_names(rules[k], "xy"[k] + ".")) for k in range(2)]
        for step in steps:
            self.stepped(step)
        why = slow_clash(self.webs[-1], *steps)
        return "apart" if why is None else f"{why[0]} {why[1]}"

    def overlaps(self, name, other):
        rules = self.ruled(name, other)
        return str(len(slow_overlaps(rules[0][0], rules[1][0])))

    def meet(self, number, names):
        names = names.split(" ")
        rules = self.ruled(*names)
        if any(rule[2] for rule in rules):
            raise Refused("HasBars")
        told = looked_through(rules, int(number))
        return f"meet {len(told[1])}" if told[0] == "meet" else f"open {names[told[1]]} {names[told[2]]}"

    def weigh(self, kind, weight):
        self.weights[kind] = int(weight)
        return "ok"

    def end(self, names):
        rules = self.ruled(*names.split(" "))
        web = self.webs[-1]
        if any(name.startswith("z") for side in web for name in side):
            raise Refused("NoNames")
        if any(slow_weight(rule[1], self.weights) >= slow_weight(rule[0], self.weights) for rule in rules):
            raise Refused("NoFall")
        row, web = slow_ended(web, rules, lambda number, told: 0, "z")
        self.webs = [web]
        return f"{len(row)} {self.show()}"


def laid(web="-", rules=RULES):
    """A desk with a web and rules."""
    desk = Desk()
    for name, rule in rules.items():
        desk.say(f"rule {name} {rule}")
    desk.say(f"web {web}")
    return desk


def tried(desk, row):
    """What is answered, or the name of the refusal in a tuple."""
    try:
        return desk.say(row)
    except GlueError as refusal:
        return (type(refusal).__name__,)
    except Refused as refusal:
        return (str(refusal),)


class Desks(unittest.TestCase):
    def assert_said(self, desk, *rows):
        """Each row is answered so."""
        for row, answer in rows:
            told = desk.say(row)
            self.assertEqual(answer, told, row)
            self.assertIs(str, type(told))

    def assert_refused(self, desk, refusal, *rows):
        """Each row is refused so, and the web is what it was."""
        for row in rows:
            shown = desk.say("show")
            with self.assertRaises(GlueError, msg=row) as caught:
                desk.say(row)
            self.assertIs(refusal, type(caught.exception), row)
            self.assertEqual(shown, desk.say("show"))

    def test_a_new_desk(self):
        self.assert_said(Desk(), ("show", "-"))
        self.assert_refused(Desk(), NoDeed, "undo")
        self.assert_refused(Desk(), NoRule, "matches a", "do a 0", "apart a 0 a 0", "overlaps a a", "meet 1 a", "end a")

    def test_web(self):
        desk = Desk()
        self.assert_said(
            desk, ("web a:x", "a:x"), ("show", "a:x"), ("web t:k(b,a) b:x a:y", "a:y b:x t:k(b,a)"),
            ("show", "a:y b:x t:k(b,a)"), ("web -", "-"), ("show", "-"),
        )

    def test_web_that_is_none(self):
        desk = laid("a:x")
        self.assert_refused(desk, NoText, "web ", "web  ", "web  a:x", "web a:x ", "web a:x  b:x", "web show", "web 0")
        self.assert_refused(desk, NoText, *[f"web {text}" for text in NO_WEBS])
        self.assert_refused(desk, NoText, "web " + " ".join(f"p{k}:x" for k in range(41)))
        self.assert_said(desk, ("web " + " ".join(f"p{k}:x" for k in range(10, 50)),
                                " ".join(f"p{k}:x" for k in range(10, 50))))

    def test_rule(self):
        desk = Desk()
        self.assert_said(
            desk, ("rule a b:x a:x > -", "a:x b:x > -"), ("rule abcdefgh - > - ! -", "- > - ! -"),
            ("web a:x b:x", "a:x b:x"),
            ("matches a", "2\na=a b=b\na=b b=a"), ("matches abcdefgh", "1\n-"), ("rule a p:x > -", "p:x > -"),
            ("matches a", "2\np=a\np=b"), ("show", "a:x b:x"),
        )

    def test_rule_that_is_none(self):
        desk = laid("a:x", {"drop": DROP})
        self.assert_refused(desk, NoText, "rule drop ", "rule drop  ", "rule drop  - > -", "rule drop - > - ")
        self.assert_refused(desk, NoText, "rule a a:x")
        for text in NO_RULES + UNRULY:
            self.assert_refused(desk, NoText, f"rule drop {text}", f"rule new {text}")
        self.assert_refused(desk, NoRule, "matches new")
        self.assert_said(desk, ("matches drop", "1\np=a"))

    def test_rule_by_a_name_that_is_none(self):
        desk = Desk()
        for name in BAD_NAMES:
            self.assert_refused(desk, NoRule, f"rule {name} - > -", f"rule {name} ", f"rule {name} ->-")
            self.assert_refused(desk, NoRule, f"rule {name}  - > -")
        for name in ("a", "abcdefgh", "web", "rule", "show"):
            self.assert_said(desk, (f"rule {name} - > -", "- > -"))

    def test_matches(self):
        desk = laid("a:x b:x c:y t:k(a,b) s:k(b,a)")
        self.assert_said(
            desk, ("matches prune", "2\na=a b=b t=t\na=b b=a t=s"), ("matches swap", "2\np=a\np=b"),
            ("matches add", "1\n-"), ("matches once", "2\na=a b=c\na=b b=c"), ("web -", "-"), ("matches swap", "0"),
        )

    def test_matches_that_cannot_be_done_are_told_and_counted(self):
        desk = laid("a:x b:x c:y t:k(a,b) s:k(b,a) u:k(a,c)")
        self.assert_said(desk, ("matches drop", "2\np=a\np=b"), ("matches once", "2\na=a b=c\na=b b=c"))
        self.assert_refused(desk, Loose, "do drop 0", "do drop 1", "do prune 0")
        self.assert_refused(desk, Barred, "do once 0")
        self.assert_refused(desk, NoMatch, "do drop 2", "do once 2")
        self.assert_said(desk, ("do once 1", "a:x b:x c:y n0.n:k(b,c) s:k(b,a) t:k(a,b) u:k(a,c)"))

    def test_do(self):
        desk = laid("b:x a:x")
        self.assert_said(
            desk, ("do swap 1", "a:x n0.q:y"), ("do grow 0", "a:x n0.q:y n1.q:x n1.t:k(a,n1.q)"),
            ("do once 0", "a:x n0.q:y n1.q:x n1.t:k(a,n1.q) n2.n:k(a,n0.q)"),
            ("undo", "a:x n0.q:y n1.q:x n1.t:k(a,n1.q)"), ("undo", "a:x n0.q:y"), ("do swap 0", "n0.q:y n1.q:y"),
            ("undo", "a:x n0.q:y"), ("undo", "a:x b:x"),
        )
        self.assert_refused(desk, NoDeed, "undo")

    def test_do_on_the_first_web(self):
        desk = Desk()
        self.assert_said(desk, ("rule add - > p:x", "- > p:x"), ("do add 0", "n0.p:x"), ("do add 0", "n0.p:x n1.p:x"),
                         ("undo", "n0.p:x"), ("undo", "-"))
        self.assert_refused(desk, NoDeed, "undo")

    def test_deeds_are_counted_since_the_web_was_told(self):
        desk = laid("a:x")
        self.assert_said(desk, ("do grow 0", "a:x n0.q:x n0.t:k(a,n0.q)"), ("web a:x", "a:x"))
        self.assert_refused(desk, NoDeed, "undo")
        self.assert_said(desk, ("do grow 0", "a:x n0.q:x n0.t:k(a,n0.q)"))

    def test_new_names_that_the_web_has(self):
        desk = laid("a:x n0.q:z")
        self.assert_refused(desk, NoNames, "do swap 0", "do grow 0")
        self.assert_said(desk, ("do drop 0", "n0.q:z"), ("undo", "a:x n0.q:z"))

    def test_a_rule_told_anew_leaves_what_was_done(self):
        desk = laid("a:x b:x")
        self.assert_said(
            desk, ("do swap 0", "b:x n0.q:y"), ("rule swap - > r:z", "- > r:z"), ("do swap 0", "b:x n0.q:y n1.r:z"),
            ("rule swap a:x > -", "a:x > -"), ("undo", "b:x n0.q:y"), ("undo", "a:x b:x"),
        )

    def test_no_match(self):
        desk = laid("a:x b:x")
        self.assert_refused(desk, NoMatch, "do swap 2", f"do swap {SIXTY}", "do prune 0", "do once 0", "do add 1")
        self.assert_refused(desk, NoMatch, "apart swap 2 swap 0", "apart swap 0 swap 2", "apart swap 0 prune 0")

    def test_what_is_refused_can_not_be_undone_and_undoes_nothing(self):
        desk = laid("a:x b:x t:k(a,b)")
        desk.say("do grow 0")
        for row in (
            "do drop 0", "do drop 9", "web x", "rule q x", "end swap", "do nothing 0", "apart drop 0 drop 1", "nothing",
        ):
            self.assertRaises(GlueError, desk.say, row)
        self.assert_said(desk, ("undo", "a:x b:x t:k(a,b)"))
        self.assert_refused(desk, NoDeed, "undo")

    def test_apart(self):
        desk = laid("a:x b:x c:y")
        self.assert_said(
            desk, ("apart swap 0 swap 1", "apart"), ("apart swap 0 swap 0", "gone a"),
            ("apart swap 1 drop 1", "gone b"),
            ("apart grow 0 grow 0", "apart"), ("apart grow 0 swap 0", "gone a"), ("apart once 0 once 0", "barred 0"),
            ("apart once 0 once 1", "apart"), ("apart add 0 add 0", "apart"), ("show", "a:x b:x c:y"),
        )
        self.assert_refused(desk, NoDeed, "undo")
        # A tie from a to c bars the first one alone, and the second one alone.
        self.assert_said(
            desk, ("rule tie a:x b:y > a:x b:y n:k(a,b)", "a:x b:y > a:x b:y n:k(a,b)"),
            ("apart once 0 tie 0", "barred 0"),
            ("apart tie 0 once 0", "barred 1"), ("apart tie 0 tie 0", "apart"), ("apart tie 0 once 1", "apart"),
        )

    def test_apart_refuses_as_the_steps_are(self):
        desk = laid("a:x b:x c:y t:k(a,c)")
        self.assert_refused(desk, Loose, "apart drop 0 drop 1", "apart drop 1 drop 0", "apart drop 0 once 0")
        self.assert_refused(desk, Barred, "apart once 0 drop 0", "apart swap 1 once 0")
        desk.say("web a:x x.q:z")
        self.assert_refused(desk, NoNames, "apart swap 0 drop 0", "apart swap 0 swap 0")
        self.assert_said(desk, ("apart drop 0 swap 0", "gone a"))
        desk.say("web a:x y.q:z")
        self.assert_refused(desk, NoNames, "apart drop 0 swap 0")
        self.assert_said(desk, ("apart swap 0 drop 0", "gone a"))

    def test_overlaps(self):
        desk = laid()
        self.assert_said(
            desk, ("overlaps swap swap", "2"), ("overlaps prune prune", "8"), ("overlaps prune swap", "3"),
            ("overlaps add prune", "1"), ("overlaps once swap", "2"), ("overlaps once once", "4"),
        )

    def test_meet(self):
        desk = laid("a:x", DIAMOND)
        self.assert_said(
            desk, ("meet 1 xy xz yw zw", "meet 5"), ("meet 0 xy xz yw zw", "open xy xz"),
            ("meet 3 xy xz yw", "open xy xz"),
            ("meet 1 yw zw xz xy", "meet 5"), ("meet 3 yw xz xy", "open xz xy"), ("meet 0 xy", "meet 1"),
            ("meet 2 xy xy", "meet 3"), ("meet 0 xz xy", "open xz xy"), ("rule still - > -", "- > -"),
            ("meet 0 still", "meet 0"), ("show", "a:x"),
        )

    def test_meet_with_bars(self):
        desk = laid("a:x")
        self.assert_refused(desk, HasBars, "meet 1 once", "meet 0 swap once", "meet 3 once swap")
        self.assert_refused(desk, NoRule, "meet 1 once nothing")

    def test_weigh_and_end(self):
        desk = laid("a:x b:x c:y")
        self.assert_refused(desk, NoFall, "end swap", "end drop")
        self.assert_said(
            desk, ("weigh x 2", "ok"), ("weigh y 1", "ok"), ("do grow 0", "a:x b:x c:y n0.q:x n0.t:k(a,n0.q)"),
            ("undo", "a:x b:x c:y"), ("do add 0", "a:x b:x c:y n0.p:x"), ("end swap", "3 c:y z0.q:y z1.q:y z2.q:y"),
            ("show", "c:y z0.q:y z1.q:y z2.q:y"),
        )
        self.assert_refused(desk, NoDeed, "undo")
        self.assert_refused(desk, NoNames, "end swap")
        self.assert_said(desk, ("do add 0", "c:y n0.p:x z0.q:y z1.q:y z2.q:y"), ("weigh y 2", "ok"), ("web a:x", "a:x"))
        self.assert_refused(desk, NoFall, "end swap")
        self.assert_said(desk, ("weigh y 0", "ok"), ("end swap", "1 z0.q:y"))

    def test_end_picks_the_first_one(self):
        desk = laid("b:x a:x")
        desk.say("weigh x 1")
        self.assert_said(desk, ("end swap drop", "2 z0.q:y z1.q:y"))
        self.assert_said(desk, ("web a:x b:x", "a:x b:x"), ("end drop swap", "2 -"))
        desk.say("weigh k 1")
        self.assert_said(desk, ("rule cut a:x b:x t:k(a,b) > a:x b:x u:l(a,b)", "a:x b:x t:k(a,b) > a:x b:x u:l(a,b)"),
                         ("web b:x a:x t:k(b,a) s:k(a,b)", "a:x b:x s:k(a,b) t:k(b,a)"),
                         ("end cut", "2 a:x b:x z0.u:l(a,b) z1.u:l(b,a)"))

    def test_end_where_nothing_can_be_done(self):
        desk = laid("a:y")
        desk.say("weigh x 1")
        desk.say("do add 0")
        desk.say("undo")
        desk.say("do add 0")
        self.assert_said(desk, ("web a:y", "a:y"), ("end swap", "0 a:y"), ("web -", "-"), ("end swap drop", "0 -"))

    def test_end_leaves_nothing_to_undo_though_it_does_nothing(self):
        desk = laid("a:y")
        desk.say("weigh x 1")
        self.assert_said(desk, ("rule dry a:y > b:w", "a:y > b:w"), ("do dry 0", "n0.b:w"), ("end swap", "0 n0.b:w"))
        self.assert_refused(desk, NoDeed, "undo")
        self.assert_said(desk, ("rule wet a:w > b:y", "a:w > b:y"))
        # The deeds are counted anew, so the name would be the one that is there.
        self.assert_refused(desk, NoNames, "do wet 0")

    def test_end_that_is_refused_leaves_what_can_be_undone(self):
        desk = laid("a:x")
        desk.say("do grow 0")
        self.assert_refused(desk, NoFall, "end swap")
        self.assert_refused(desk, NoRule, "end swap nothing")
        self.assert_said(desk, ("undo", "a:x"))
        desk.say("web a:x z:y")
        desk.say("weigh x 1")
        self.assert_refused(desk, NoNames, "end swap", "end grow")

    def test_weights_of_sixty_figures(self):
        desk = laid("a:x")
        self.assert_said(desk, (f"weigh x {SIXTY}", "ok"), (f"weigh y {SIXTY[:-1]}8", "ok"), ("end swap", "1 z0.q:y"))
        desk.say("web a:x")
        self.assert_said(desk, (f"weigh y {SIXTY}", "ok"))
        self.assert_refused(desk, NoFall, "end swap")

    def test_weights_of_ties_and_long_kinds(self):
        desk = laid("a:x b:abcdefgh t:k(a,b)", {"cut": "a:x b:abcdefgh t:k(a,b) > a:x"})
        self.assert_refused(desk, NoFall, "end cut")
        self.assert_said(desk, ("weigh abcdefgh 0", "ok"))
        self.assert_refused(desk, NoFall, "end cut")
        self.assert_said(desk, ("weigh k 1", "ok"), ("end cut", "1 a:x"))

    def test_kinds_that_are_none(self):
        desk = laid()
        for kind in ["K", "k1", "k.", "abcdefghi", "1", "-", "", "k\n"]:
            self.assert_refused(desk, NoRow, f"weigh {kind} 1")

    def test_numbers_that_are_none(self):
        desk = laid("a:x b:x")
        for number in BAD_NUMBERS:
            self.assert_refused(
                desk, NoRow, f"do swap {number}", f"do Nothing {number}", f"apart swap {number} swap 0",
                f"apart swap 0 swap {number}", f"apart N 0 N {number}", f"meet {number} swap", f"meet {number} N",
                f"weigh x {number}",
            )
        self.assert_refused(desk, NoRow, "meet 4 swap", "meet 10 swap", f"meet {SIXTY} swap", "meet 30 N")
        self.assert_refused(desk, NoRow, "meet swap 1")

    def test_other_counts_of_words(self):
        desk = laid("a:x b:x")
        self.assert_refused(
            desk, NoRow, "", " ", "web", "rule", "rule a", "rule ", "rule  ", "rule  - > -", "rule  a - > -", "show ",
            "show a", "show  ", " show", "matches", "matches ", "matches swap ", "matches swap swap", "matches  swap",
            "do",
            "do swap", "do swap ", "do swap 0 ", "do  swap 0", "do swap  0", "do swap 0 0", "do 0", "do  0", "undo ",
            "undo 1", "apart", "apart swap 0", "apart swap 0 swap", "apart swap 0 swap ", "apart swap 0 swap 0 ",
            "apart swap 0 swap 0 0", "apart swap 0  swap 0", "apart swap swap 0 0", "overlaps", "overlaps swap",
            "overlaps swap ", "overlaps swap swap ", "overlaps swap swap swap", "overlaps swap  swap", "meet", "meet 1",
            "meet 1 ", "meet 1 swap ", "meet 1  swap", "meet  1 swap", "meet 1 swap  swap", "meet swap", "weigh",
            "weigh x",
            "weigh x ", "weigh x 1 ", "weigh x 1 1", "weigh  x 1", "weigh x  1", "weigh 1", "end", "end ", "end  ",
            "end swap ", "end  swap", "end swap  swap",
        )
        self.assert_said(desk, ("show", "a:x b:x"), ("matches swap", "2\np=a\np=b"))

    def test_other_first_words(self):
        desk = laid("a:x")
        self.assert_refused(
            desk, NoRow, "Show", "SHOW", "shows", "sho", "show\n", "\nshow", "show\t", "redo", "choices", "help", "-",
            "a:x",
            "rules", "Web -", "web\t-", "web\n-", "webs -", "match swap", "overlap swap swap", "text", "name",
            "number", "names",
            "ending swap", "weight x 1", "meets 1 swap", "web: -", "open swap swap", "web,-", "> -", "0",
        )

    def test_other_kinds(self):
        desk = laid("a:x")
        words = [thing for thing in ODD_THINGS if not isinstance(thing, str)]
        self.assert_refused(desk, NoRow, *words, ["show"], ("show",), b"show", {"show": "show"}, ["web", "-"])

    def test_names_that_no_rule_has(self):
        desk = laid("a:x b:x")
        for name in BAD_NAMES + ["nothing", "swa", "swapp", "x"]:
            self.assert_refused(
                desk, NoRule, f"matches {name}", f"do {name} 0", f"do {name} {SIXTY}", f"apart {name} 0 swap 0",
                f"apart swap 9 {name} 0", f"apart swap 0 {name} 9", f"overlaps {name} swap", f"overlaps swap {name}",
                f"meet 1 {name}", f"meet 0 swap {name}", f"meet 1 once {name}", f"end {name}", f"end swap {name}",
            )

    def test_what_is_due_first(self):
        desk = laid("a:x b:x c:y t:k(a,c) x.q:z z:z")
        for refusal, rows in [
            (NoRow, ["do nothing x", "meet 9 nothing", "apart nothing 0 nothing 00", "rule Nothing", "do  nothing 9"]),
            (NoRule, ["do nothing 9", "rule Nothing nothing", "apart drop 9 nothing 0", "meet 1 once nothing"]),
            (NoRule, ["end nothing", "end drop nothing", "overlaps once nothing"]),
            (NoText, ["rule nothing nothing", "rule swap ", "web nothing"]),
            (NoMatch, ["do drop 2", "apart drop 0 drop 2", "apart drop 2 drop 0", "apart once 0 swap 2"]),
            (Loose, ["do drop 0", "apart drop 0 once 0", "apart drop 0 swap 1"]),
            (Barred, ["do once 0", "apart once 0 drop 0", "apart drop 1 once 0"]),
            (NoNames, ["apart swap 1 drop 0", "end drop", "end swap", "end once"]),
        ]:
            self.assert_refused(desk, refusal, *rows)

    def test_two_desks_have_nothing_in_common(self):
        one = laid("a:x")
        other = Desk()
        one.say("weigh x 1")
        self.assert_said(other, ("show", "-"))
        self.assert_refused(other, NoRule, "matches swap")
        other.say(f"rule swap {SWAP}")
        self.assert_refused(other, NoFall, "end swap")

    def test_drawn_rows(self):
        chance = random.Random(241)
        counts = {}
        for round_number in range(60):
            desk = Desk()
            slow = SlowDesk()
            for turn in range(80):
                row = chance.choice(self.first_rows()) if turn < 5 else self.some_row(chance, slow)
                told = tried(desk, row)
                self.assertEqual(tried(slow, row), told, row)
                self.assertEqual(slow.show(), desk.say("show"))
                kind = (row.partition(" ")[0], told if isinstance(told, tuple) else "answered")
                counts[kind] = counts.get(kind, 0) + 1
        for word in FORMS:
            self.assertGreater(counts.get((word, "answered"), 0), 10, (word, counts))
        refused = {told[0] for word, told in counts if told != "answered"}
        every = {"NoRow", "NoRule", "NoText", "NoMatch", "Loose", "Barred", "NoNames", "NoDeed", "NoFall", "HasBars"}
        self.assertEqual(every, refused)

    def first_rows(self):
        """Rows that tell the rules above and a web."""
        return [f"rule {name} {rule}" for name, rule in RULES.items()] + ["web a:x b:x c:y t:k(a,b)"]

    def some_row(self, chance, slow):
        """A row drawn by chance, most often one that can be answered."""
        name, other = [chance.choice([*slow.rules, *slow.rules, "one"]) for k in range(2)]
        number, other_number = [chance.choice([0, 0, 0, 1, 1, 2, 5]) for k in range(2)]
        if len(slow.webs[-1][0]) > 6 or chance.randrange(12) == 0:
            mark = chance.choice(["", "", "z"])
            web = some_web(chance, chance.randrange(5), chance.randrange(4), "xxxy", "kkkl", mark)
            row = "web " + web_shown(web)
        else:
            drawn = rule_shown(some_rule(chance, "xxxy", "kkkl", chance.choice([0, 0, 1])))
            new = chance.choice([*RULES.values(), drawn, drawn])
            row = chance.choice([
                f"rule {chance.choice(['one', 'two', 'three', 'four'])} {new}", f"matches {name}",
                f"do {name} {number}", f"do {name} {number}", f"do {name} {number}", "undo", "show",
                f"apart {name} {number} {other} {other_number}", f"apart {name} {number} {other} {other_number}",
                f"overlaps {name} {other}", f"meet {chance.randrange(2)} {name} {other}", f"meet 0 {name}",
                f"weigh {chance.choice('xykl')} {chance.randrange(4)}", "weigh x 3", f"end {name}",
                f"end {name} {other}",
            ])
        return spoiled(chance, row) if chance.randrange(8) == 0 else row

    def test_the_samples_themselves(self):
        for rule in [*RULES.values(), *DIAMOND.values()]:
            self.assertTrue(is_rule(slow_rule(rule)))


if __name__ == "__main__":
    unittest.main()
