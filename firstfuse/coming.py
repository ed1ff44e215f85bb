"""Which sets of fuses can blow, and in which order."""

from firstfuse.boards import fuses_behind
from firstfuse.checks import are_ascending, are_unlike
from firstfuse.loads import load, own_draws, strained


def can_come(board, on, value):
    """Whether value is an ascending tuple of fuses that can come."""
    return are_ascending(value, len(board[0])) and bar_for(board, on, value) is None


def is_order(board, on, value):
    """Whether value is a tuple of fuses that can blow one after another in this order."""
    return are_unlike(value, len(board[0])) and can_follow(board, on, (), value)


def can_follow(board, on, blown, row):
    """Whether the fuses of the row can blow one after another in its order, the blown ones being blown before."""
    return all([fuse in strained(board, on, blown + row[:index]) for index, fuse in enumerate(row)])


def order_for(board, on, blown):
    """An order in which the blown fuses come; None if they cannot."""
    if bar_for(board, on, blown) is not None:
        return None
    # Fuses behind another one have greater indexes, and have to blow ahead of it.
    return tuple(reversed(blown))


def bar_for(board, on, blown):
    """The least of the blown fuses that is not strained once those behind it are blown; None if there is none."""
    for fuse in blown:
        behind = fuses_behind(board, fuse)
        others = tuple([other for other in blown if other in behind])
        if load(board, on, others, fuse) <= board[0][fuse][1]:
            return fuse
    return None


def count_come(board, on):
    """How many sets of fuses can come."""
    return sum(come_counts(board, on)[-1].values())


def come_counts(board, on):
    """For each fuse, while it is whole, and last for the main line, how many sets of the fuses behind it can come.

    Each item is a dict of these numbers by the load that is left.
    """
    fuses = board[0]
    # The main line stands last, at -1, which is what the first fuse hangs on.
    counts = [{draw: 1} for draw in own_draws(board, on)] + [{0: 1}]
    for fuse in range(len(fuses) - 1, -1, -1):
        above, mark = fuses[fuse]
        with_this = with_blown(counts[fuse], count_blowing(counts[fuse], mark))
        counts[above] = summed_counts(counts[above], with_this)
    return counts


def count_blowing(counts, mark):
    """How many of the sets leave a load at which a fuse of this mark is strained."""
    return sum([many for total, many in counts.items() if total > mark])


def with_blown(counts, blowing):
    """The counts, and so many sets more in which the fuse itself is blown, and has no load."""
    both = {total: many for total, many in counts.items()}
    # A count of 0 would only make the sums of counts longer.
    if blowing > 0:
        both[0] = both.get(0, 0) + blowing
    return both


def summed_counts(first, second):
    """The counts of the pairs of a set of the one and a set of the other, by the sum of their loads."""
    sums = {}
    for total, many in first.items():
        for more, others in second.items():
            sums[total + more] = sums.get(total + more, 0) + many * others
    return sums
