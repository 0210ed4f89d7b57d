"""Rows of steps, each one done behind those ahead of it."""

from gluework.steps import back, done, step_copied
from gluework.webs import copied


def gone_through(web, row):
    """The webs from web to that behind the last step; refused as the first step that cannot be done is."""
    webs = [copied(web)]
    for step in row:
        webs.append(done(webs[-1], step))
    return webs


def back_row(row):
    """The row that leads back from behind this one, the last step's step back first."""
    return [back(step) for step in reversed(row)]


def row_copied(row):
    """A new row, the same as this one."""
    return [step_copied(step) for step in row]
