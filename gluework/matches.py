"""Matches of a piece in a web, and likenesses of two webs."""

from gluework.webs import hold, tie_renamed, things


def is_match(piece, web, match):
    """Whether match, of any kind, is a match of piece in web."""
    names = things(piece)
    if not isinstance(match, dict) or len(match) != len(names):
        return False
    if not all([isinstance(match.get(name), str) for name in names]):
        return False
    if len(set(line(piece, match))) != len(names):
        return False
    if not all([web[0].get(match[name]) == kind for name, kind in piece[0].items()]):
        return False
    return all([web[1].get(match[name]) == tie_renamed(tie, match) for name, tie in piece[1].items()])


def line(piece, match):
    """What piece's points, in order, and then its ties, in order, are put to."""
    return [match[name] for name in things(piece)]


def matches(piece, web, fixed=None):
    """All matches of piece in web that put what fixed tells as it does, in the order of their lines."""
    return found(piece, web, piece[0], web[0], fixed, None)


def first_match(piece, web, fixed):
    """The first match of piece in web that puts what fixed tells as it does, or None."""
    return first_found(piece, web, piece[0], web[0], fixed)


def likeness(web, other, fixed=None):
    """The first likeness of web and other that puts what fixed tells as it does, or None."""
    if len(web[0]) != len(other[0]) or len(web[1]) != len(other[1]):
        return None
    # As many things are put to as many unlike ones: nothing of other is left over.
    return first_found(web, other, looks(web), looks(other), fixed)


def looks(web):
    """For each point its kind, and of what kinds its ties are and whether they come, go or do both."""
    return dict([(name, (kind, tie_looks(web, name))) for name, kind in web[0].items()])


def tie_looks(web, name):
    """How the ties in the hold of a point look from there, in order."""
    ties = [web[1][tie] for tie in hold(web, name)]
    return sorted([(tie[0], tie[1] == name, tie[2] == name) for tie in ties])


def first_found(piece, web, piece_looks, web_looks, fixed):
    """The first match that puts points to points of the same look, or None."""
    # The search ends with the first one: there may be very many.
    told = found(piece, web, piece_looks, web_looks, fixed, 1)
    return told[0] if told else None


def found(piece, web, piece_looks, web_looks, fixed, most):
    """The first matches (all, where most is None) that put points to points of the same look."""
    told = {} if fixed is None else fixed
    choices = point_choices(piece_looks, web_looks, told)
    if not enough(list(choices.values())):
        return []
    places = tie_places(piece, web, told)
    names = things(piece)
    return [dict(zip(names, row)) for row in lines(piece, choices, places, most)]


def may_be(name, image, fixed):
    """Whether fixed lets name be put to image: what is fixed has its one image to itself."""
    if name in fixed:
        return image == fixed[name]
    return image not in list(fixed.values())


def point_choices(piece_looks, web_looks, fixed):
    """For each point of the piece the points of the same look that it may be put to, in order."""
    choices = {}
    for name, look in piece_looks.items():
        alike = [image for image in sorted(web_looks) if web_looks[image] == look]
        choices[name] = [image for image in alike if may_be(name, image, fixed)]
    return choices


def tie_places(piece, web, fixed):
    """For each tie of the piece a dict from (from, to) in web to the ties there it may be put to, in order."""
    places = {}
    for name, tie in piece[1].items():
        there = {}
        for image in sorted(web[1]):
            other = web[1][image]
            if other[0] == tie[0] and may_be(name, image, fixed):
                there.setdefault(other[1:], []).append(image)
        places[name] = there
    return places


def enough(lists):
    """Whether unlike things can be drawn, one from each list.

    Any two of the lists are equal or have nothing in common. So whatever is drawn first, the
    rest can be drawn, too: a search that asks this does not run into many dead ends.
    """
    return all([lists.count(drawn) <= len(drawn) for drawn in lists])


def lines(piece, choices, places, most):
    """The lines of the matches in order, no more than most of them (all, where most is None)."""
    names = things(piece)
    told = []
    waiting = [[]]
    while waiting and len(told) != most:
        begun = waiting.pop()
        if len(begun) == len(names):
            told.append(begun)
        else:
            # The last one that waits is taken first, so the least one is put there last.
            for image in reversed(images(piece, choices, places, begun)):
                waiting.append(begun + [image])
    return told


def images(piece, choices, places, begun):
    """What the next one of piece's things may be put to, in order, where a line is begun so."""
    names = things(piece)
    name = names[len(begun)]
    put = dict(zip(names, begun))
    if name in piece[1]:
        return [image for image in tie_choices(piece, places, put, name) if image not in begun]
    unlike = [image for image in choices[name] if image not in begun]
    return [image for image in unlike if has_room(piece, places, put, name, image)]


def tie_choices(piece, places, put, name):
    """The ties that a tie of the piece may be put to, where its ends are put so."""
    ends = tie_renamed(piece[1][name], put)[1:]
    return places[name].get(ends, [])


def has_room(piece, places, put, name, image):
    """Whether the ties find place whose later end is this point, when it is put to image."""
    longer = dict(put)
    longer[name] = image
    due = [tie for tie, told in piece[1].items() if max(told[1:]) == name]
    return enough([tie_choices(piece, places, longer, tie) for tie in due])
