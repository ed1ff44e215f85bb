"""What can have blown by a story, told from the lamps that are lit, and where to look next; for small boards."""

from firstfuse.checks import demand_small
from firstfuse.loads import at_rest, lit, strained
from firstfuse.stories import is_pause, on_after, on_at_moments


def all_come(board, story):
    """The ascending tuple of all sets of fuses that can have come by the story."""
    demand_small(board)
    sets = [()]
    for deed, on in zip(story, on_at_moments(board, story)):
        sets = _with_more_blown(board, on, sets)
        if is_pause(deed):
            sets = [blown for blown in sets if at_rest(board, on, blown)]
    return tuple(sorted(sets))


def _with_more_blown(board, on, sets):
    """The list of the sets and of all that come of them as strained fuses blow."""
    found = list(sets)
    fresh = list(sets)
    while fresh:
        blown = fresh.pop()
        for fuse in strained(board, on, blown):
            more = tuple(sorted(blown + (fuse,)))
            if more not in found:
                found.append(more)
                fresh.append(more)
    return found


def fitting(board, story, seen):
    """Those of all_come with which just the lamps of seen are lit behind the story."""
    sets = all_come(board, story)
    on = on_after(board, story)
    return tuple([blown for blown in sets if lit(board, on, blown) == seen])


def surely_blown(board, story, seen):
    """The ascending tuple of the fuses that are blown in all sets of fitting; () if there are none."""
    sets = fitting(board, story, seen)
    if sets == ():
        return ()
    return tuple([fuse for fuse in range(len(board[0])) if all([fuse in blown for blown in sets])])


def maybe_blown(board, story, seen):
    """The ascending tuple of the fuses that are blown in at least one set of fitting."""
    sets = fitting(board, story, seen)
    return tuple([fuse for fuse in range(len(board[0])) if any([fuse in blown for blown in sets])])


def best_look(board, story, seen):
    """The least fuse that, looked at, surely leaves as few sets of fitting as any; None if there is at most one."""
    sets = fitting(board, story, seen)
    if len(sets) <= 1:
        return None
    left = [max([len(part) for part in _parted(sets, fuse)]) for fuse in range(len(board[0]))]
    return left.index(min(left))


def _parted(sets, fuse):
    """The sets with the fuse, and those without it."""
    return ([blown for blown in sets if fuse in blown], [blown for blown in sets if fuse not in blown])


def fewest_looks(board, story, seen):
    """How many fuses, looked at one after another, are enough to tell which set of fitting it is."""
    sets = fitting(board, story, seen)
    looks = 0
    # A look at every fuse tells it, so this ends.
    while not _can_tell(sets, len(board[0]), looks):
        looks = looks + 1
    return looks


def _can_tell(sets, fuse_count, looks):
    """Whether so many looks, each chosen by those before, are enough to tell the sets apart."""
    if len(sets) <= 1:
        return True
    # One look parts the sets in two at most, so there is nothing to try if they are too many.
    if len(sets) > 1 << looks:
        return False
    for fuse in range(fuse_count):
        if all([_can_tell(part, fuse_count, looks - 1) for part in _parted(sets, fuse)]):
            return True
    return False
