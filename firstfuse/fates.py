"""Which lamps surely stay lit, which surely go dark, and which may do either."""

from firstfuse.boards import fuses_behind, way_of
from firstfuse.ends import best_ends
from firstfuse.loads import at_rest, lit, load, own_draws, strained


def shown(board, on, bright, dark):
    """An end in which the lamps of bright are lit and those of dark are not; None if there is none."""
    # No other end with the lamps of bright lit has lamps lit that this one has dark:
    # so if it leaves something strained, or a lamp of dark lit, each of them does.
    blown = _topmost(board, _free_to_blow(board, on, bright))
    if not at_rest(board, on, blown):
        return None
    lamps = lit(board, on, blown)
    if any([lamp in lamps for lamp in dark]):
        return None
    return blown


def _free_to_blow(board, on, bright):
    """The fuses that are strained at first and hold none of the lamps of bright."""
    needed = [fuse for lamp in bright for fuse in way_of(board, board[1][lamp][0])]
    return [fuse for fuse in strained(board, on, ()) if fuse not in needed]


def _topmost(board, chosen):
    """Those of the chosen fuses that are not behind another one of them, as an ascending tuple."""
    return tuple([fuse for fuse in chosen if not any([above in chosen for above in way_of(board, fuse)[1:]])])


def fate(board, on, lamp):
    """What becomes of the lamp: "lit", "dark" or "open"."""
    if shown(board, on, (), (lamp,)) is None:
        return "lit"
    if shown(board, on, (lamp,), ()) is None:
        return "dark"
    return "open"


def fates(board, on):
    """The tuple of the fates of the lamps that are on, in order."""
    return tuple([fate(board, on, lamp) for lamp in on])


def brightest(board, on):
    """An end with the most lamps lit."""
    fuses = board[0]
    counts = _own_counts(board, on)
    starts = [{many: (draw, ())} for many, draw in zip(counts, own_draws(board, on))]
    # A fuse that blows at all can blow ahead of those behind it, and then no lamp behind it is lit.
    early = strained(board, on, ())
    blows = [{0: (fuse,)} if fuse in early else {} for fuse in range(len(fuses))]
    ends = best_ends(board, starts, blows)
    return ends[max(ends)]


def _own_counts(board, on):
    """The list of how many of the lamps that are on hang straight on each fuse."""
    fuses, lamps = board
    counts = [0] * len(fuses)
    for lamp in on:
        counts[lamps[lamp][0]] += 1
    return counts


def darkest(board, on):
    """An end with the fewest lamps lit."""
    return shown(board, on, (), ())


def least_beside(board, on, fuse):
    """The least load that the fuse can have, it and those above it being whole."""
    behind = fuses_behind(board, fuse)
    # What is not strained at first never is; all that are strained at first can be made to draw nothing.
    blown = tuple([other for other in strained(board, on, ()) if other in behind])
    return load(board, on, blown, fuse)
