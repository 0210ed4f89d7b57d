"""Forms: texts that alike webs share, so that most unlike webs are told from one another without a search."""

from gluework.matches import first_found


def first_looks(web, points):
    """For each point its kind, and for these points their names, too, so that each is like itself alone."""
    return dict([(name, (kind, name if name in points else "")) for name, kind in web[0].items()])


def numbered(looks):
    """For each point the number of its look among all unlike looks, in order."""
    unlike = sorted(set(list(looks.values())))
    numbers = dict([(look, number) for number, look in enumerate(unlike)])
    return dict([(name, numbers[look]) for name, look in looks.items()])


def looks_around(web, numbers):
    """For each point its number, and for each of its ties the kind, which way it goes, and the other end's number."""
    around = dict([(name, []) for name in numbers])
    for tie in web[1].values():
        if tie[1] == tie[2]:
            around[tie[1]].append((tie[0], "both", numbers[tie[1]]))
        else:
            around[tie[1]].append((tie[0], "goes", numbers[tie[2]]))
            around[tie[2]].append((tie[0], "comes", numbers[tie[1]]))
    return dict([(name, (numbers[name], tuple(sorted(around[name])))) for name in numbers])


def form(web, points):
    """A text that webs share which are alike by a likeness that keeps these points, and the looks of all points.

    In webs of the same text a likeness puts points to points of the same look. Where no two points look the same,
    the looks tell the whole web, so that webs of the same text are alike.
    """
    looks = first_looks(web, points)
    rounds = [sorted(looks.values())]
    count = -1
    # Each round sees one tie farther; once no more looks are told from one another, none ever are.
    while count != len(set(list(looks.values()))):
        count = len(set(list(looks.values())))
        looks = looks_around(web, numbered(looks))
        rounds.append(sorted(looks.values()))
    return (repr(rounds), looks)


def likeness_by_looks(web, other, looks, other_looks, points):
    """A likeness of two webs of the same text that keeps these points, or None."""
    return first_found(web, other, looks, other_looks, dict([(name, name) for name in points]))
