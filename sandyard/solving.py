"""Which forced tumbles change heaps as asked, told in parts of a whole."""

from sandyard.tumbling import change_by


def determinant(rows):
    if not rows:
        return 1
    total = 0
    sign = 1
    for k, row in enumerate(rows):
        minor = [other[1:] for other in rows[:k] + rows[k + 1:]]
        total += sign * row[0] * determinant(minor)
        sign = -sign
    return total


def times_for(yard, difference):
    """A whole, and for each place the parts of it that tell how often it tumbles to add the difference."""
    rows = [change_by(yard, place) for place in range(1, yard[0] + 1)]
    # Cramer's rule. Ties lead both ways alike, so a row may stand for a column. The whole is never 0, as all places
    # lead to the ditch.
    parts = [determinant(rows[:k] + [difference] + rows[k + 1:]) for k in range(yard[0])]
    return (determinant(rows), tuple(parts))


def common_divisor(one, other):
    greater = abs(one)
    lesser = abs(other)
    while lesser != 0:
        left = greater % lesser
        greater = lesser
        lesser = left
    return greater
