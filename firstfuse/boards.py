"""Boards: trees of fuses, and the lamps that hang on them."""

from firstfuse.bounds import MAX_DRAW, MAX_FUSES, MAX_LAMPS, MAX_LOAD
from firstfuse.checks import is_integer, is_pair, is_row


def board_error(value):
    """None for a board; otherwise the first fault, as (index or None, word)."""
    if not is_pair(value):
        return (None, "board")
    fuses, lamps = value
    if not is_row(fuses, 1, MAX_FUSES):
        return (None, "fuses")
    for index, item in enumerate(fuses):
        if not _is_fuse(item, index):
            return (index, "fuse")
    if not is_row(lamps, 0, MAX_LAMPS):
        return (None, "lamps")
    for index, item in enumerate(lamps):
        if not _is_lamp(item, len(fuses)):
            return (index, "lamp")
    return None


def _is_fuse(item, index):
    """Whether item may stand at this index among the fuses."""
    if not is_pair(item):
        return False
    above, mark = item
    # Only the main line, -1, is left for the first fuse, and only for it.
    least = -1 if index == 0 else 0
    return is_integer(above, least, index - 1) and is_integer(mark, 0, MAX_LOAD)


def _is_lamp(item, fuse_count):
    """Whether item may stand among the lamps of a board with so many fuses."""
    if not is_pair(item):
        return False
    fuse, draw = item
    return is_integer(fuse, 0, fuse_count - 1) and is_integer(draw, 1, MAX_DRAW)


def way_of(board, fuse):
    """The fuse, the one it hangs on, and so on up to the first fuse."""
    fuses = board[0]
    way = []
    at = fuse
    while at >= 0:
        way.append(at)
        at = fuses[at][0]
    return tuple(way)


def fuses_behind(board, fuse):
    """The ascending tuple of the fuses behind the fuse."""
    fuses = board[0]
    behind = []
    # A fuse stands after the one it hangs on, so one pass finds them all.
    for index, (above, _) in enumerate(fuses):
        if above == fuse or above in behind:
            behind.append(index)
    return tuple(behind)


def lamps_behind(board, fuse):
    """The ascending tuple of the lamps on the fuse and on those behind it."""
    lamps = board[1]
    behind = fuses_behind(board, fuse)
    return tuple([index for index, (held_by, _) in enumerate(lamps) if held_by == fuse or held_by in behind])
