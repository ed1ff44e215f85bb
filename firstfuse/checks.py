"""Questions about values of any kind, and about small boards, which the other files share."""

from firstfuse.bounds import MAX_SMALL, MAX_SMALL_LAMPS
from firstfuse.errors import TooGreat


def is_integer(value, least, most):
    """Whether value is an integer from least to most."""
    # Python counts True and False as integers, the document does not.
    return isinstance(value, int) and not isinstance(value, bool) and least <= value <= most


def is_row(value, least, most):
    """Whether value is a tuple of least to most items."""
    return isinstance(value, tuple) and least <= len(value) <= most


def is_pair(value):
    """Whether value is a tuple of two items."""
    return is_row(value, 2, 2)


def are_unlike(value, count):
    """Whether value is a tuple of indexes of count items, all unlike."""
    if not is_row(value, 0, count):
        return False
    # The items are told to be integers first: others may be unfit for a set.
    return all([is_integer(item, 0, count - 1) for item in value]) and len(set(value)) == len(value)


def are_ascending(value, count):
    """Whether value is an ascending tuple of indexes of count items."""
    return are_unlike(value, count) and list(value) == sorted(value)


def demand_small(board):
    """Raises TooGreat() for a board that is not small."""
    fuses, lamps = board
    if len(fuses) > MAX_SMALL or len(lamps) > MAX_SMALL_LAMPS:
        raise TooGreat()


def subsets(count):
    """The list of all sets of count items: the shortest ones first, those of one length ascending."""
    sets = [()]
    for item in range(count):
        sets = sets + [chosen + (item,) for chosen in sets]
    return sorted(sets, key=lambda chosen: (len(chosen), chosen))
