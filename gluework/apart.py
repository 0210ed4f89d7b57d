"""Whether two steps disturb one another, and what one takes from the other."""

from gluework.errors import GlueError
from gluework.rows import gone_through, row_copied
from gluework.steps import barred, done, taken_out


def common(one, other):
    """What both dicts put something to, in order."""
    images = list(other.values())
    return [image for image in sorted(one.values()) if image in images]


def clash(web, one, other):
    """Why the steps are not apart, as a tuple, or None where they are; refused where one of both cannot be done."""
    behind_one = done(web, one)
    behind_other = done(web, other)
    names = common(one[2], other[2])
    if names:
        return ("names", names[0])
    out = taken_out(one) + taken_out(other)
    gone = [name for name in common(one[1], other[1]) if name in out]
    if gone:
        return ("gone", gone[0])
    # Nothing is gone, so both matches are still matches there, as barred asks.
    if barred(behind_other, one[0], one[1]) is not None:
        return ("barred", 0)
    if barred(behind_one, other[0], other[1]) is not None:
        return ("barred", 1)
    return None


def can_be_gone_through(web, row):
    """Whether each step of the row can be done, each next one behind those ahead of it."""
    try:
        gone_through(web, row)
    except GlueError:
        return False
    return True


def changed_places(web, row, k):
    """The row with the steps at k and k + 1 changed about, or None where they may not; refused as the row is."""
    webs = gone_through(web, row)
    pair = [row[k + 1], row[k]]
    if not can_be_gone_through(webs[k], pair):
        return None
    return row_copied(row[:k] + pair + row[k + 2:])
