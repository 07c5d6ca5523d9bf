"""Yards and other things that the tests hand in, helpers to change and draw them, and the document in other words."""

import fractions
import itertools

# Of 1 to 5 places, with 1 to 4 ties between two.
YARDS = (
    (1, ((0, 1, 1),)),
    (1, ((0, 1, 4),)),
    (2, ((0, 1, 1), (0, 2, 2))),
    (2, ((0, 2, 3), (1, 2, 4))),
    (2, ((0, 1, 1), (0, 2, 1), (1, 2, 1))),
    (3, ((0, 3, 1), (1, 2, 2), (2, 3, 3))),
    (3, ((0, 1, 4), (0, 2, 4), (0, 3, 4), (1, 2, 4), (1, 3, 4), (2, 3, 4))),
    (4, ((0, 1, 1), (1, 2, 2), (2, 3, 3), (3, 4, 4))),
    (4, ((0, 4, 2), (1, 3, 1), (2, 4, 1), (3, 4, 1))),
    (5, ((0, 5, 1), (1, 2, 1), (2, 3, 1), (3, 4, 1), (4, 5, 1))),
    (5, ((0, 1, 1), (0, 2, 2), (0, 3, 3), (0, 4, 4), (0, 5, 1))),
    (5, ((0, 3, 2), (1, 2, 4), (1, 5, 1), (2, 4, 3), (3, 4, 1), (4, 5, 2))),
    (5, tuple((one, other, 1 + (one + other) % 4) for one in range(6) for other in range(one + 1, 6))),
)

HUGE = 10 ** 5000


def nested(kind, depth, core):
    thing = core
    for _ in range(depth):
        thing = kind([thing])
    return thing


def mixed(depth):
    """Lists and tuples by turns, with other things beside them."""
    thing = "core"
    for turn in range(depth):
        thing = [thing, None, turn] if turn % 2 else (True, thing, -turn, "")
    return thing


# None of these is a whole number, a tie, ties, a yard, or grains of a yard.
ODD_THINGS = (
    None, True, False, "", "1", "yard 1 link 0 1 1", (), [], (None,), [None], ("",), (True,),
    (None, None), ("ab", "cd"), (1, None), [1, [[0, 1, 1]]], [[], []], ((), ()), ((), [], ()),
    ("", "", ""), (None, None, None), [0, 1, 1], (1, ()), (0, ()), (0, 1, True), (False, 1, 1),
    nested(tuple, 30, ()), nested(tuple, 35, 1), nested(list, 30, []), nested(list, 35, None), mixed(34),
)

ODD_NUMBERS = tuple(range(-2, 9)) + (HUGE, -HUGE, 2 ** 64)


def paths(thing):
    """The way to each part of a thing, at any depth, the thing itself first."""
    found = [()]
    if isinstance(thing, tuple):
        for k, part in enumerate(thing):
            found.extend((k,) + rest for rest in paths(part))
    return found


def part_at(thing, path):
    for k in path:
        thing = thing[k]
    return thing


def changed(thing, path, new):
    """The thing with a new part at the end of the path."""
    if path == ():
        return new
    k = path[0]
    return thing[:k] + (changed(thing[k], path[1:], new),) + thing[k + 1:]


def drawn_yard(rng, count):
    """A yard with that many places, drawn: a way to the ditch for each place, and some ties more."""
    many_of = {(rng.randrange(place), place): rng.randint(1, 4) for place in range(1, count + 1)}
    for one in range(count + 1):
        for other in range(one + 1, count + 1):
            if rng.random() < 0.4:
                many_of[one, other] = rng.randint(1, 4)
    # Numbered anew, since the ways above lead from greater to lesser places alone.
    names = [0] + rng.sample(range(1, count + 1), count)
    ties = []
    for (one, other), many in many_of.items():
        one, other = sorted((names[one], names[other]))
        ties.append((one, other, many))
    return (count, tuple(sorted(ties)))


def drawn_yards(rng, each):
    return [drawn_yard(rng, count) for count in range(1, 6) for _ in range(each)]


def drawn_grains(rng, yard, most):
    return tuple(rng.randint(0, most) for _ in range(yard[0]))


def told_sizes(yard):
    """[0.5] by its words, without the program."""
    told = [0] * (yard[0] + 1)
    for one, other, many in yard[1]:
        told[one] += many
        told[other] += many
    return tuple(told[1:])


def told_tumble(yard, grains, place, often=1):
    """[2.1] by its words: over each tie of the place goes a grain, whether it has enough or not."""
    heaps = [0] + list(grains)
    for one, other, many in yard[1]:
        if place in (one, other):
            heaps[place] -= many * often
            heaps[other if place == one else one] += many * often
    return tuple(heaps[1:])


def told_rests(yard, grains):
    return all(heap < size for heap, size in zip(grains, told_sizes(yard)))


def all_rests(yard):
    return itertools.product(*(range(size) for size in told_sizes(yard)))


def told_forced(yard, grains, times):
    for place, often in enumerate(times, start=1):
        grains = told_tumble(yard, grains, place, often)
    return grains


def told_settled(yard, grains, choose):
    """[2.2] step by step: of the places that can tumble, the chosen one tumbles once."""
    limits = told_sizes(yard)
    times = [0] * yard[0]
    ready = [k for k in range(yard[0]) if grains[k] >= limits[k]]
    while ready:
        k = choose(ready)
        grains = told_tumble(yard, grains, k + 1)
        times[k] += 1
        ready = [k for k in range(yard[0]) if grains[k] >= limits[k]]
    return (grains, tuple(times))


def added(one, other):
    return tuple(heap + more for heap, more in zip(one, other))


def told_burn(yard, grains):
    """[3.1] by its words: who burns is kept, and the ties to all others are counted anew each turn."""
    burning = {0}
    turns = []
    while True:
        turn = []
        for place in range(1, yard[0] + 1):
            ties = 0
            for one, other, many in yard[1]:
                if place in (one, other) and (one + other - place) not in burning:
                    ties += many
            if place not in burning and grains[place - 1] >= ties:
                turn.append(place)
        if not turn:
            return tuple(turns)
        burning.update(turn)
        turns.append(tuple(turn))


def tree_count(yard):
    """How many trees the yard has, by Kirchhoff's determinant."""
    rows = [list(told_tumble(yard, (0,) * yard[0], place, -1)) for place in range(1, yard[0] + 1)]

    def determinant(rows):
        if not rows:
            return 1
        rest = [row[1:] for row in rows]
        return sum((-1) ** k * rows[k][0] * determinant(rest[:k] + rest[k + 1:]) for k in range(len(rows)))

    return determinant(rows)


def full_yard(count, many):
    """A yard with that many ties between each two."""
    return (count, tuple((one, other, many) for one in range(count + 1) for other in range(one + 1, count + 1)))


# Few enough rests that a test can walk them all.
SMALL_YARDS = YARDS[:6] + YARDS[8:11] + (
    (2, ((0, 1, 1), (1, 2, 3))), (3, ((0, 1, 2), (0, 3, 1), (1, 2, 3), (2, 3, 1))),
    (4, ((0, 1, 1), (0, 4, 1), (1, 2, 1), (2, 3, 1), (3, 4, 1))),
    full_yard(1, 3), full_yard(2, 2), full_yard(2, 4), full_yard(3, 1), full_yard(3, 2), full_yard(4, 1),
)


def told_lasts(yard, grains):
    """[3.1] by its words: whether they rest, and all places burn."""
    return told_rests(yard, grains) and sum(len(turn) for turn in told_burn(yard, grains)) == yard[0]


def told_lasting(yard):
    return tuple(grains for grains in all_rests(yard) if told_lasts(yard, grains))


def told_times(yard, one, other):
    """How often each place is forced to tumble to lead from one to other, in fractions, by elimination."""
    none = (0,) * yard[0]
    columns = [told_tumble(yard, none, place) for place in range(1, yard[0] + 1)]
    rows = []
    for k in range(yard[0]):
        row = [column[k] for column in columns] + [other[k] - one[k]]
        rows.append([fractions.Fraction(part) for part in row])
    for k in range(yard[0]):
        swap = next(m for m in range(k, yard[0]) if rows[m][k] != 0)
        rows[k], rows[swap] = rows[swap], rows[k]
        rows[k] = [part / rows[k][k] for part in rows[k]]
        for m in range(yard[0]):
            if m != k:
                rows[m] = [part - rows[m][k] * less for part, less in zip(rows[m], rows[k])]
    return tuple(row[-1] for row in rows)


def told_alike(yard, one, other):
    """[3.3] by its words: whether those times are whole numbers."""
    return all(often.denominator == 1 for often in told_times(yard, one, other))


def told_is_calm(yard, grains):
    """[4.1] by its words: each choice of places, one at least, tumbles at once."""
    places = range(1, yard[0] + 1)
    for length in places:
        for group in itertools.combinations(places, length):
            left = grains
            for place in group:
                left = told_tumble(yard, left, place)
            if all(left[place - 1] >= 0 for place in group):
                return False
    return True
