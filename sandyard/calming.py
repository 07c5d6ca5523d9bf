"""Grains of which no places can tumble all at once, and the calm rest of any grains."""

from sandyard.burning import ties_to
from sandyard.dials import fullest, home, without
from sandyard.things import size_of


def left_on(yard, grains, place, group):
    """What the place is left with when all of the group, it among them, tumble once."""
    return grains[place - 1] - size_of(yard, place) + ties_to(yard, place, group)


def greatest_group(yard, grains):
    """The most places that can tumble all at once; none if none can."""
    group = list(range(1, yard[0] + 1))
    able = [place for place in group if left_on(yard, grains, place, group) >= 0]
    while able != group:
        # Who is in debt within a group would be so within a smaller one too, where it is given fewer.
        group = able
        able = [place for place in group if left_on(yard, grains, place, group) >= 0]
    return group


def is_calm(yard, grains):
    return greatest_group(yard, grains) == []


def calm(yard, grains):
    # A rest is calm just if what it lacks to the fullest rest is lasting.
    full = fullest(yard)
    return without(full, home(yard, without(full, grains)))
