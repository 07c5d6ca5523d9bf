"""The text of a yard."""

from sandyard.errors import NoYard
from sandyard.things import is_yard


def written(yard):
    if not is_yard(yard):
        # The thing itself is not shown: Python refuses to put very long numbers into figures.
        raise NoYard("only a yard can be written, and this is none")
    count, ties = yard
    links = [f"link {one} {other} {many}" for one, other, many in ties]
    return " ".join([f"yard {count}"] + links)
