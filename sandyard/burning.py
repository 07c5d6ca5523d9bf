"""The burn of grains at rest, and whether they last."""

from sandyard.errors import NoRest
from sandyard.things import between
from sandyard.tumbling import rests


def ties_to(yard, place, others):
    # The place may be among the others: no tie leads from a place to itself.
    return sum([between(yard, place, other) for other in others])


def catching(yard, grains, unburnt):
    return tuple([place for place in unburnt if grains[place - 1] >= ties_to(yard, place, unburnt)])


def burn(yard, grains):
    if not rests(yard, grains):
        raise NoRest("only grains at rest burn")
    # The ditch burns already: it is not among those that ties are counted to.
    unburnt = list(range(1, yard[0] + 1))
    turns = []
    turn = catching(yard, grains, unburnt)
    while turn:
        turns.append(turn)
        unburnt = [place for place in unburnt if place not in turn]
        turn = catching(yard, grains, unburnt)
    return tuple(turns)


def is_lasting(yard, grains):
    burnt = sum([len(turn) for turn in burn(yard, grains)])
    return burnt == yard[0]
