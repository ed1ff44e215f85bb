"""Which lamps are lit, what the fuses carry, and which of them are strained."""


def lit(board, on, blown):
    """The ascending tuple of the lamps that are lit."""
    lamps = board[1]
    dead = _dead(board, blown)
    return tuple([lamp for lamp in on if not dead[lamps[lamp][0]]])


def _dead(board, blown):
    """For each fuse, whether it or one above it is blown."""
    dead = []
    for fuse, (above, _) in enumerate(board[0]):
        dead.append(fuse in blown or (above >= 0 and dead[above]))
    return dead


def load(board, on, blown, fuse):
    """The load of the fuse."""
    return loads(board, on, blown)[fuse]


def loads(board, on, blown):
    """The tuple of the loads of all fuses, in order."""
    fuses = board[0]
    totals = own_draws(board, lit(board, on, blown))
    # A fuse stands after the one it hangs on: its total is whole when it is handed on.
    for fuse in range(len(fuses) - 1, 0, -1):
        totals[fuses[fuse][0]] += totals[fuse]
    return tuple(totals)


def own_draws(board, on):
    """The list of what the lamps that are on draw straight from each fuse, not through one behind it."""
    fuses, lamps = board
    draws = [0] * len(fuses)
    for lamp in on:
        fuse, draw = lamps[lamp]
        draws[fuse] += draw
    return draws


def strained(board, on, blown):
    """The ascending tuple of the strained fuses."""
    fuses = board[0]
    return tuple([fuse for fuse, total in enumerate(loads(board, on, blown)) if total > fuses[fuse][1]])


def at_rest(board, on, blown):
    """Whether no fuse is strained."""
    return strained(board, on, blown) == ()
