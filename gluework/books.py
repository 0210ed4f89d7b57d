"""Books of rules by which any two steps from one web meet again."""

from gluework.apart import clash
from gluework.errors import NoNames, NoRule, Open
from gluework.meetings import looked_through
from gluework.overlaps import lies, overlap_of
from gluework.rows import gone_through, row_copied
from gluework.rules import rule_copied
from gluework.steps import done, step_copied
from gluework.webs import is_mark, things


def meeting_turned(met):
    """The meeting of both steps the other way round."""
    return (met[1], met[0], dict([(image, name) for name, image in met[2].items()]))


def places(one, other):
    """Where the things of the overlap web of both steps, and their new things there, are in the web itself."""
    put = lies(one[0][0], other[0][0], overlap_of(one[1], other[1]), one[1], other[1])
    put.update(dict([("c." + name, image) for name, image in one[2].items()]))
    put.update(dict([("d." + name, image) for name, image in other[2].items()]))
    return put


def name_there(name, put, mark):
    """What a thing of a meeting is called in the web itself: what the rows add has the mark ahead."""
    return put[name] if name in put else f"{mark}.{name}"


def names_there(named, put, mark):
    """The dict that leads to the names in the web itself."""
    return dict([(name, name_there(image, put, mark)) for name, image in named.items()])


def row_there(row, put, mark):
    """The row as it is gone through in the web itself."""
    return [
        (rule_copied(step[0]), names_there(step[1], put, mark), names_there(step[2], put, mark)) for step in row
    ]


def likeness_there(web, likeness, put, mark):
    """The likeness as it is in the web itself, where all that the meeting does not know is put to itself."""
    told = dict([(name_there(name, put, mark), image) for name, image in names_there(likeness, put, mark).items()])
    return dict([(name, told.get(name, name)) for name in things(web)])


def meeting_there(web, one, met, put, mark):
    """The meeting as it is in the web itself, the first step of which is one."""
    way = row_there(met[0], put, mark)
    end = gone_through(done(web, one), way)[-1]
    return (way, row_there(met[1], put, mark), likeness_there(end, met[2], put, mark))


def meeting_apart(web, one, other):
    """The meeting of two steps apart: each row is the other step, and both lead to the same web."""
    end = gone_through(web, [one, other])[-1]
    return ([step_copied(other)], [step_copied(one)], dict([(name, name) for name in things(end)]))


def refuse_taken_mark(web, one, other, mark):
    """Refuses with NoNames where a name of the web or of one of both freshes begins like the names by this mark."""
    names = things(web) + list(one[2].values()) + list(other[2].values())
    if any([name.startswith(mark + ".") for name in names]):
        raise NoNames("a name begins with this mark already")


class Book:
    """Rules of which each split has a meeting; refused with HasBars, then with Open."""

    def __init__(self, rules, most=1):
        told = looked_through(rules, most)
        if told[0] == "open":
            raise Open("a split of these rules has no meeting")
        self.rules = [rule_copied(rule) for rule in rules]
        self.met = told[1]

    def meetings(self):
        """All splits with their meetings: tuples (i, j, overlap, meeting)."""
        return [
            (told[0], told[1], list(told[2]), (row_copied(told[3][0]), row_copied(told[3][1]), dict(told[3][2])))
            for told in self.met
        ]

    def number_of(self, rule):
        """The number of the first one of the book's rules that is this one; refused with NoRule."""
        for number, own in enumerate(self.rules):
            if own == rule:
                return number
        raise NoRule("this is none of the book's rules")

    def meeting_of(self, one, other):
        """The meeting for two steps that are not apart, of which the first one's rule has no greater number."""
        split = (self.number_of(one[0]), self.number_of(other[0]), overlap_of(one[1], other[1]))
        return [told[3] for told in self.met if told[:3] == split][0]

    def meet(self, web, one, other, mark="m"):
        """Rows from behind both steps, and a likeness of the webs behind these rows."""
        if not is_mark(mark):
            raise NoNames("this is no mark")
        order = self.number_of(one[0]) - self.number_of(other[0])
        why = clash(web, one, other)
        if why is not None and why[0] == "names":
            raise NoNames("both steps give the same new name")
        refuse_taken_mark(web, one, other, mark)
        if why is None:
            return meeting_apart(web, one, other)
        if order > 0:
            met = meeting_turned(self.meeting_of(other, one))
            return meeting_there(web, one, met, places(other, one), mark)
        return meeting_there(web, one, self.meeting_of(one, other), places(one, other), mark)
