"""What a yard is, what grains are, and how many ties lie where."""

DITCH = 0
MOST_PLACES = 5
MOST_TIES = 4


def is_whole(thing):
    # Python counts truths among its ints, the document does not.
    return isinstance(thing, int) and not isinstance(thing, bool)


def is_whole_within(thing, least, most):
    return is_whole(thing) and least <= thing <= most


def is_tuple_of_length(thing, length):
    return isinstance(thing, tuple) and len(thing) == length


def is_tie(thing, count):
    if not is_tuple_of_length(thing, 3):
        return False
    one, other, many = thing
    if not is_whole_within(one, DITCH, count) or not is_whole_within(other, DITCH, count):
        return False
    return one < other and is_whole_within(many, 1, MOST_TIES)


def are_rising(ties):
    # Many is left out: the same two with another many would rise too, and may not stand twice.
    pairs = [tie[:2] for tie in ties]
    return all([earlier < later for earlier, later in zip(pairs, pairs[1:])])


def all_lead_to_ditch(count, ties):
    reached = {DITCH: True}
    # Each turn reaches one more place at least, if there is one to reach: count turns are enough.
    for turn in range(count):
        for one, other, many in ties:
            if one in reached or other in reached:
                reached[one] = True
                reached[other] = True
    return len(reached) == count + 1


def is_yard(thing):
    if not is_tuple_of_length(thing, 2):
        return False
    count, ties = thing
    if not is_whole_within(count, 1, MOST_PLACES) or not isinstance(ties, tuple):
        return False
    # The order matters: only ties that are sound one by one can be compared and walked.
    if not all([is_tie(tie, count) for tie in ties]):
        return False
    return are_rising(ties) and all_lead_to_ditch(count, ties)


def are_grains(thing, yard):
    if not is_tuple_of_length(thing, yard[0]):
        return False
    return all([is_whole(heap) and heap >= 0 for heap in thing])


def size_of(yard, place):
    return sum([many for one, other, many in yard[1] if place in (one, other)])


def sizes(yard):
    return tuple([size_of(yard, place) for place in range(1, yard[0] + 1)])


def between(yard, one, other):
    # A tie names the lesser of its two first, whichever of them is asked first.
    pair = (min(one, other), max(one, other))
    return sum([tie[2] for tie in yard[1] if tie[:2] == pair])
