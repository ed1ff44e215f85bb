"""What holds for all stories, and which sets of lamps are safe."""

from firstfuse.boards import lamps_behind, way_of
from firstfuse.coming import summed_counts
from firstfuse.loads import at_rest, loads, strained


def never_blows(board):
    """The ascending tuple of the fuses that are blown in no story."""
    blowing = _may_blow(board)
    return tuple([fuse for fuse in range(len(board[0])) if fuse not in blowing])


def _may_blow(board):
    """The ascending tuple of the fuses that are blown in some story."""
    # No load is greater than that with all lamps on and nothing blown, and a story can come to it.
    return strained(board, tuple(range(len(board[1]))), ())


def steady(board):
    """The ascending tuple of the lamps that are lit in all stories whenever they are on."""
    blowing = _may_blow(board)
    found = []
    for lamp, (fuse, _) in enumerate(board[1]):
        if not any([above in blowing for above in way_of(board, fuse)]):
            found.append(lamp)
    return tuple(found)


def lamps_for(board, fuse):
    """As few lamps as can be that make the fuse strained while nothing is blown; None if there are none."""
    fuses, lamps = board
    mark = fuses[fuse][1]
    total = 0
    chosen = ()
    for draw, lamp in sorted([(lamps[lamp][1], lamp) for lamp in lamps_behind(board, fuse)], reverse=True):
        total = total + draw
        chosen = chosen + (lamp,)
        if total > mark:
            return tuple(sorted(chosen))
    return None


def is_safe(board, on):
    """Whether nothing is strained with these lamps on and nothing blown."""
    return at_rest(board, on, ())


def count_safe(board):
    """How many sets of lamps are safe."""
    fuses, lamps = board
    # How many safe sets of the lamps behind each fuse, and last behind the main line, draw each load.
    counts = [{0: 1} for _ in fuses] + [{0: 1}]
    for fuse, draw in lamps:
        counts[fuse] = summed_counts(counts[fuse], {0: 1, draw: 1})
    for fuse in range(len(fuses) - 1, -1, -1):
        above, mark = fuses[fuse]
        safe = {total: many for total, many in counts[fuse].items() if total <= mark}
        counts[above] = summed_counts(counts[above], safe)
    return sum(counts[-1].values())


def most_safe(board):
    """A safe set with the most lamps."""
    fuses, lamps = board
    # For each fuse, and last for the main line, (draw, lamp) for the lamps behind it that are kept.
    kept = [[] for _ in fuses] + [[]]
    for lamp, (fuse, draw) in enumerate(lamps):
        kept[fuse].append((draw, lamp))
    for fuse in range(len(fuses) - 1, -1, -1):
        above, mark = fuses[fuse]
        # Of those kept, so many of the lightest are safe, and draw as little as any so many that are safe.
        kept[above] = kept[above] + _lightest(kept[fuse], mark)
    return tuple(sorted([lamp for _, lamp in kept[-1]]))


def _lightest(pairs, mark):
    """As many of the pairs (draw, lamp), the lightest ones, as draw no more than the mark."""
    total = 0
    chosen = []
    for draw, lamp in sorted(pairs):
        total = total + draw
        if total <= mark:
            chosen.append((draw, lamp))
    return chosen


def heaviest_safe(board):
    """A safe set with the greatest load of the first fuse."""
    fuses, lamps = board
    # For each fuse, and last for the main line, a safe set of the lamps behind it for each load that there is.
    found = [{0: ()} for _ in fuses] + [{0: ()}]
    for lamp, (fuse, draw) in enumerate(lamps):
        found[fuse] = _joined(found[fuse], {0: (), draw: (lamp,)})
    for fuse in range(len(fuses) - 1, -1, -1):
        above, mark = fuses[fuse]
        safe = {total: chosen for total, chosen in found[fuse].items() if total <= mark}
        found[above] = _joined(found[above], safe)
    return tuple(sorted(found[-1][max(found[-1])]))


def _joined(first, second):
    """For each sum of a load of the one and a load of the other, one pair of their sets, put together."""
    joined = {}
    for total, chosen in first.items():
        for more, others in second.items():
            if total + more not in joined:
                joined[total + more] = chosen + others
    return joined


def least_marks(board, lots):
    """The tuple of the least marks of all fuses, in order, with which each of the lots would be safe."""
    marks = [0] * len(board[0])
    for lot in lots:
        marks = [max(mark, total) for mark, total in zip(marks, loads(board, lot, ()))]
    return tuple(marks)
