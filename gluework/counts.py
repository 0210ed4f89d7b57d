"""Counts: how many things of each kind webs have, so that rows which cannot lead to alike webs are left out early."""


def kinds_in(web):
    """For each thing of the web whether it is a point or a tie, and its kind."""
    return [("point", kind) for kind in web[0].values()] + [("tie", tie[0]) for tie in web[1].values()]


def all_kinds(webs):
    """What kinds of points and of ties there are in the webs, in order."""
    kinds = []
    for web in webs:
        kinds.extend(kinds_in(web))
    return sorted(set(kinds))


def counted(web, kinds):
    """How many things of each of the kinds the web has."""
    held = kinds_in(web)
    return tuple([held.count(kind) for kind in kinds])


def move_of(rule, kinds):
    """What a step by the rule does to counts: how many things it looks for, and how many are then in their place."""
    return (counted(rule[0], kinds), counted(rule[1], kinds))


def moved(counts, move):
    """The counts behind a step that does so, or None where there are too few things for it."""
    rest = [count - sought for count, sought in zip(counts, move[0])]
    if any([count < 0 for count in rest]):
        return None
    return tuple([count + more for count, more in zip(rest, move[1])])


def next_counts(row, moves):
    """All counts behind one more step, each once."""
    told = {}
    for counts in row:
        for move in moves:
            told[moved(counts, move)] = True
    return [counts for counts in told if counts is not None]


def layers(start, moves, most):
    """For each number of steps, from none to most, all counts behind so many of them."""
    told = [[start]]
    for number in range(most):
        told.append(next_counts(told[number], moves))
    return told


def leads_on(counts, moves, ahead):
    """Whether one more step leads to counts that are in ahead."""
    return any([moved(counts, move) in ahead for move in moves])


def hopes(own, others, moves):
    """For each number of steps the counts from which the steps that are left may lead to some of the other layers."""
    goals = {}
    for row in others:
        goals.update(dict([(counts, True) for counts in row]))
    told = []
    ahead = {}
    for row in reversed(own):
        ahead = dict([(counts, True) for counts in row if counts in goals or leads_on(counts, moves, ahead)])
        told.append(ahead)
    told.reverse()
    return told
