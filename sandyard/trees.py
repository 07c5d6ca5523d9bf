"""The trees of a yard, that join all places and the ditch."""


def joined(groups, one, other):
    return tuple([groups[one] if group == groups[other] else group for group in groups])


def grown(stems, tie):
    """The stems as they are, and each once more with the tie, where it can take it."""
    one, other, many = tie
    longer = []
    for pairs, ways, groups in stems:
        # A tie within a group would lead round to where other ties lead already: no tree comes of it.
        if groups[one] != groups[other]:
            longer.append((pairs + ((one, other),), ways * many, joined(groups, one, other)))
    return stems + longer


def trees(yard):
    count, ties = yard
    # Of each stem: its pairs, in how many ways they can be taken, and a group for the ditch and each place.
    stems = [((), 1, tuple(range(count + 1)))]
    for tie in ties:
        stems = grown(stems, tie)
    # So many pairs that never lead round join all places and the ditch.
    return tuple(sorted([(pairs, ways) for pairs, ways, groups in stems if len(pairs) == count]))


def count_of(yard):
    return sum([many for tree, many in trees(yard)])
