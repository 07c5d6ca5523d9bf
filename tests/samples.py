"""Yards and other things that the tests hand in, and helpers to change them."""

# Of 1 to 5 places, with 1 to 4 ties between two.
YARDS = (
    (1, ((0, 1, 1),)),
    (1, ((0, 1, 4),)),
    (2, ((0, 1, 1), (0, 2, 2))),
    (2, ((0, 2, 3), (1, 2, 4))),
    (2, ((0, 1, 1), (0, 2, 1), (1, 2, 1))),
    (3, ((0, 3, 1), (1, 2, 2), (2, 3, 3))),
    (3, ((0, 1, 4), (0, 2, 4), (0, 3, 4), (1, 2, 4), (1, 3, 4), (2, 3, 4))),
    (4, ((0, 1, 1), (1, 2, 2), (2, 3, 3), (3, 4, 4))),
    (4, ((0, 4, 2), (1, 3, 1), (2, 4, 1), (3, 4, 1))),
    (5, ((0, 5, 1), (1, 2, 1), (2, 3, 1), (3, 4, 1), (4, 5, 1))),
    (5, ((0, 1, 1), (0, 2, 2), (0, 3, 3), (0, 4, 4), (0, 5, 1))),
    (5, ((0, 3, 2), (1, 2, 4), (1, 5, 1), (2, 4, 3), (3, 4, 1), (4, 5, 2))),
    (5, tuple((one, other, 1 + (one + other) % 4) for one in range(6) for other in range(one + 1, 6))),
)

HUGE = 10 ** 5000


def nested(kind, depth, core):
    thing = core
    for _ in range(depth):
        thing = kind([thing])
    return thing


def mixed(depth):
    """Lists and tuples by turns, with other things beside them."""
    thing = "core"
    for turn in range(depth):
        thing = [thing, None, turn] if turn % 2 else (True, thing, -turn, "")
    return thing


# None of these is a whole number, a tie, ties, a yard, or grains of a yard.
ODD_THINGS = (
    None, True, False, "", "1", "yard 1 link 0 1 1", (), [], (None,), [None], ("",), (True,),
    (None, None), ("ab", "cd"), (1, None), [1, [[0, 1, 1]]], [[], []], ((), ()), ((), [], ()),
    ("", "", ""), (None, None, None), [0, 1, 1], (1, ()), (0, ()), (0, 1, True), (False, 1, 1),
    nested(tuple, 30, ()), nested(tuple, 35, 1), nested(list, 30, []), nested(list, 35, None), mixed(34),
)

ODD_NUMBERS = tuple(range(-2, 9)) + (HUGE, -HUGE, 2 ** 64)


def paths(thing):
    """The way to each part of a thing, at any depth, the thing itself first."""
    found = [()]
    if isinstance(thing, tuple):
        for k, part in enumerate(thing):
            found.extend((k,) + rest for rest in paths(part))
    return found


def part_at(thing, path):
    for k in path:
        thing = thing[k]
    return thing


def changed(thing, path, new):
    """The thing with a new part at the end of the path."""
    if path == ():
        return new
    k = path[0]
    return thing[:k] + (changed(thing[k], path[1:], new),) + thing[k + 1:]
