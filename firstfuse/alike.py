"""Which boards come to the same lamps lit, whatever is on; for small boards."""

from firstfuse.bounds import MAX_LOAD
from firstfuse.checks import demand_small, subsets
from firstfuse.errors import Unlike
from firstfuse.loads import own_draws, strained


def outcomes(board, on):
    """The ascending tuple of the sets of lamps that are lit in an end."""
    demand_small(board)
    fuses, lamps = board
    early = strained(board, on, ())
    # For each fuse, and last for the main line, the pairs (load, lamps lit) that can be left behind it.
    left = [[(draw, ())] for draw in own_draws(board, on)] + [[(0, ())]]
    for lamp in on:
        fuse = lamps[lamp][0]
        left[fuse] = [(total, lit + (lamp,)) for total, lit in left[fuse]]
    for fuse in range(len(fuses) - 1, -1, -1):
        above, mark = fuses[fuse]
        resting = [(total, lit) for total, lit in left[fuse] if total <= mark]
        # A fuse that blows at all can blow ahead of those behind it, while its load is greatest.
        ends = (resting + [(0, ())]) if fuse in early else resting
        left[above] = [(total + more, lit + others) for total, lit in left[above] for more, others in ends]
    return tuple(sorted({tuple(sorted(lit)) for _, lit in left[-1]}))


def parting(board, other):
    """The first of the shortest sets of lamps for which the outcomes are not the same; None if there is none."""
    demand_small(board)
    demand_small(other)
    if len(board[1]) != len(other[1]):
        raise Unlike()
    for on in subsets(len(board[1])):
        if outcomes(board, on) != outcomes(other, on):
            return on
    return None


def spare(board):
    """The ascending tuple of the fuses that could be bridged, each alone, the board staying alike."""
    demand_small(board)
    return tuple([fuse for fuse in range(len(board[0])) if parting(board, _bridged(board, fuse)) is None])


def _bridged(board, fuse):
    """The board with this fuse bridged."""
    fuses, lamps = board
    above = fuses[fuse][0]
    return (fuses[:fuse] + ((above, MAX_LOAD),) + fuses[fuse + 1:], lamps)
