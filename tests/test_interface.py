"""The interface: the names and arguments are there as they stand in it."""

import importlib
import inspect
import operator
import unittest

INTERFACE = {
    "webs": [
        "is_name(thing)", "is_kind(thing)", "is_web(thing)", "checked(thing)", "things(web)", "hold(web, name)",
        "is_part(web, other)", "without(web, names)", "glued(web, more)", "renamed(web, names)",
    ],
    "matches": [
        "is_match(piece, web, match)", "line(piece, match)", "matches(piece, web, fixed=None)",
        "likeness(web, other, fixed=None)",
    ],
    "rules": ["is_rule(thing)", "kept(rule)", "taken(rule)", "fresh_of(rule)", "turned(rule)"],
    "steps": ["barred(web, rule, match)", "done(web, step)", "behind(step)", "back(step)"],
    "rows": ["gone_through(web, row)", "back_row(row)"],
    "apart": ["clash(web, one, other)", "changed_places(web, row, k)"],
    "overlaps": [
        "overlaps(piece, other)", "overlap_web(piece, other, pairs)", "overlap_of(match, other)",
        "lies(piece, other, pairs, match, other_match)",
    ],
    "splits": ["splits(rule, other)", "split_steps(rule, other, pairs)"],
    "meetings": ["meeting(rules, i, j, pairs, most)", "looked_through(rules, most=1)"],
    "books": ["Book(rules, most=1)", "Book.meetings(self)", "Book.meet(self, web, one, other, mark='m')"],
    "weights": ["weighed(web, weights)", "falls(rule, weights)"],
    "ends": ["choices(web, rules)", "ended(web, rules, weights, hand, mark='n')"],
    "workshop": [
        "Workshop(web, rules)", "Workshop.web(self)", "Workshop.row(self)", "Workshop.choices(self)",
        "Workshop.deed(self, number, match, mark='n')", "Workshop.undo(self)", "Workshop.redo(self)",
    ],
    "texts": [
        "web_shown(web)", "rule_shown(rule)", "match_shown(piece, match)", "web_read(text)", "rule_read(text)",
    ],
    "desk": ["Desk()", "Desk.say(self, row)"],
}


class Interface(unittest.TestCase):
    def test_names_and_arguments(self):
        for module, rows in INTERFACE.items():
            held = importlib.import_module(f"gluework.{module}")
            for row in rows:
                with self.subTest(f"{module}: {row}"):
                    name = row.split("(")[0]
                    self.assertEqual(row, name + str(inspect.signature(operator.attrgetter(name)(held))))


if __name__ == "__main__":
    unittest.main()
