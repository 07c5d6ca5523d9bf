"""The lasting rests of a yard, and how they add up like numbers on a dial."""

from sandyard.burning import burn, is_lasting, ties_to
from sandyard.errors import NotLasting
from sandyard.solving import common_divisor, times_for
from sandyard.things import sizes
from sandyard.tumbling import changed, rests, settled


def without(heaps, fewer):
    return tuple([heap - less for heap, less in zip(heaps, fewer)])


def fullest(yard):
    return tuple([size - 1 for size in sizes(yard)])


def least_heap(yard, ahead, behind):
    """The least heap between those ahead and those behind that makes a lasting rest, if any heap does."""
    # What is left unburnt when the place has no grains waits for it alone: it must burn while all of that doesn't yet.
    burnt = sum(burn(yard, ahead + (0,) + behind), start=())
    unburnt = [place for place in range(1, yard[0] + 1) if place not in burnt]
    return ties_to(yard, len(ahead) + 1, unburnt)


def one_heap_longer(yard, start, full):
    k = len(start)
    # More grains on a lasting rest leave it lasting: if any heaps behind do, the fullest do, and from the least heap
    # on all do.
    least = least_heap(yard, start, full[k + 1:])
    return [start + (heap,) for heap in range(least, full[k] + 1)]


def lasting(yard):
    full = fullest(yard)
    starts = [()]
    for k in range(yard[0]):
        longer = []
        for start in starts:
            longer.extend(one_heap_longer(yard, start, full))
        starts = longer
    return tuple(starts)


def lift_of(yard):
    """Heaps that are alike to none at all, each greater than its place's size."""
    twice = tuple([2 * size for size in sizes(yard)])
    return without(twice, settled(yard, twice)[0])


def home(yard, grains):
    # Lifted above the fullest rest, which lasts, they settle to what comes of it by putting on. Heaps below 0 are
    # lifted more often.
    often = 1 + max(0, -min(grains))
    return settled(yard, changed(grains, lift_of(yard), often))[0]


def zero(yard):
    return home(yard, (0,) * yard[0])


def refuse_unless_lasting(yard, grains):
    if not rests(yard, grains) or not is_lasting(yard, grains):
        raise NotLasting("only a lasting rest stands on the dial")


def back(yard, grains):
    refuse_unless_lasting(yard, grains)
    return home(yard, tuple([-heap for heap in grains]))


def order_of(yard, grains):
    refuse_unless_lasting(yard, grains)
    whole, parts = times_for(yard, grains)
    shared = whole
    for part in parts:
        shared = common_divisor(shared, part)
    # Put together so often, each part is a multiple of the whole, and whole tumbles lead there from none at all.
    return abs(whole) // shared


def alike(yard, one, other):
    whole, parts = times_for(yard, without(other, one))
    return all([part % whole == 0 for part in parts])
