"""How places tumble, and the rest that comes of it."""

from sandyard.errors import NoTumble
from sandyard.things import between, is_whole_within, size_of, sizes


def all_below(heaps, limits):
    return all([heap < limit for heap, limit in zip(heaps, limits)])


def change_by(yard, place):
    """What one tumble of the place adds to the heap of each place."""
    change = [between(yard, place, other) for other in range(1, yard[0] + 1)]
    change[place - 1] = -size_of(yard, place)
    return tuple(change)


def changed(heaps, change, often):
    return tuple([heap + more * often for heap, more in zip(heaps, change)])


def rests(yard, grains):
    return all_below(grains, sizes(yard))


def tumbled(yard, grains, place):
    if not is_whole_within(place, 1, yard[0]):
        raise NoTumble("only a place of the yard tumbles")
    if grains[place - 1] < size_of(yard, place):
        raise NoTumble("the place has fewer grains than its size")
    return changed(grains, change_by(yard, place), 1)


def settled(yard, grains):
    limits = sizes(yard)
    changes = [change_by(yard, place) for place in range(1, yard[0] + 1)]
    times = [0] * yard[0]
    heaps = grains
    while not all_below(heaps, limits):
        for k, size in enumerate(limits):
            # All tumbles that a heap has grains for at once: the order doesn't matter, and great heaps end soon.
            # A heap below 0 would else take tumbles back.
            often = max(heaps[k] // size, 0)
            heaps = changed(heaps, changes[k], often)
            times[k] += often
    return (heaps, tuple(times))


def put(yard, one, other):
    together = tuple([heap + more for heap, more in zip(one, other)])
    return settled(yard, together)[0]


def forced(yard, grains, times):
    heaps = grains
    for k, often in enumerate(times):
        heaps = changed(heaps, change_by(yard, k + 1), often)
    return heaps
