"""Weights: how much webs weigh, and whether a rule makes a web lighter."""


def weighed(web, weights):
    """What all points and ties of the web weigh together; a kind that weights leave out weighs 0."""
    kinds = list(web[0].values()) + [tie[0] for tie in web[1].values()]
    return sum([weights.get(kind, 0) for kind in kinds])


def falls(rule, weights):
    """Whether the rule's right weighs less than its left."""
    return weighed(rule[1], weights) < weighed(rule[0], weights)
