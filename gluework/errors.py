"""The refusals, one class for each."""


class GlueError(ValueError):
    """Any refusal."""


class NoWeb(GlueError):
    """What should be a web is none."""


class NoRule(GlueError):
    """There is no such rule."""


class NoMatch(GlueError):
    """What should be a match is none."""


class Loose(GlueError):
    """A point would go, and a tie in its hold would not."""


class Barred(GlueError):
    """A bar of the rule lies where the step would be done."""


class NoNames(GlueError):
    """The names for new things do not serve."""


class HasBars(GlueError):
    """A rule has bars where none may have any."""


class NoOverlap(GlueError):
    """What should be an overlap is none."""


class Open(GlueError):
    """Two steps by the rules do not meet again."""


class NoFall(GlueError):
    """A rule does not make a web lighter."""


class NoDeed(GlueError):
    """There is no deed to undo or to do again."""


class NoText(GlueError):
    """A text is not that of a web or a rule."""


class NoRow(GlueError):
    """A row of words is none that the desk knows."""
