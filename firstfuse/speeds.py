"""What can blow if some fuses are known to be quicker than others; for small boards."""

from firstfuse.boards import fuses_behind
from firstfuse.checks import are_unlike, demand_small, is_pair, subsets
from firstfuse.loads import at_rest, strained


def speeds_error(board, value):
    """None for speeds; otherwise the first fault, as (index or None, word)."""
    demand_small(board)
    if not isinstance(value, tuple):
        return (None, "speeds")
    for index, item in enumerate(value):
        if not (is_pair(item) and are_unlike(item, len(board[0]))):
            return (index, "pair")
    for index in range(1, len(value)):
        if value[index] <= value[index - 1]:
            return (index, "order")
    if any([fuse in slower for fuse, slower in enumerate(_slower_fuses(board, value))]):
        return (None, "ring")
    return None


def _slower_fuses(board, speeds):
    """For each fuse the list of those that it is known to be quicker than."""
    count = len(board[0])
    slower = [[slow for slow in range(count) if (quick, slow) in speeds] for quick in range(count)]
    # After each pass the rows of pairs that lead by the fuses up to middle are counted in.
    for middle in range(count):
        for quick in range(count):
            if middle in slower[quick]:
                slower[quick] = sorted(set(slower[quick] + slower[middle]))
    return slower


def come_by(board, on, speeds):
    """The ascending tuple of all sets of fuses that can come by the speeds."""
    demand_small(board)
    return tuple(sorted(_orders(board, on, speeds)))


def ends_by(board, on, speeds):
    """The ascending tuple of those sets of come_by with which nothing is strained."""
    return tuple([blown for blown in come_by(board, on, speeds) if at_rest(board, on, blown)])


def _orders(board, on, speeds):
    """A dict with an order by the speeds for each set of fuses that can come by them."""
    slower = _slower_fuses(board, speeds)
    orders = {(): ()}
    fresh = [()]
    while fresh:
        order = fresh.pop()
        for fuse in _next_fuses(board, on, slower, order):
            blown = tuple(sorted(order + (fuse,)))
            # What may blow next depends on what is blown, not on the order in which it did.
            if blown not in orders:
                orders[blown] = order + (fuse,)
                fresh.append(orders[blown])
    return orders


def _next_fuses(board, on, slower, blown):
    """The fuses that may blow next."""
    hot = strained(board, on, blown)
    return [fuse for fuse in hot if not any([fuse in slower[other] for other in hot])]


def is_order_by(board, on, speeds, value):
    """Whether value is a tuple of fuses that can blow by the speeds one after another in this order."""
    demand_small(board)
    if not are_unlike(value, len(board[0])):
        return False
    slower = _slower_fuses(board, speeds)
    return all([fuse in _next_fuses(board, on, slower, value[:index]) for index, fuse in enumerate(value)])


def order_by(board, on, speeds, blown):
    """An order by the speeds of just the blown fuses; None if there is none."""
    demand_small(board)
    return _orders(board, on, speeds).get(blown)


def is_guarded(board, speeds):
    """Whether, with any lamps on, no fuse blows by the speeds while one behind it is strained."""
    return unguarded(board, speeds) is None


def unguarded(board, speeds):
    """Lamps and an order whose last fuse blows while one behind it is strained; None if there are none."""
    demand_small(board)
    slower = _slower_fuses(board, speeds)
    for on in subsets(len(board[1])):
        for order in _orders(board, on, speeds).values():
            fuse = _careless_fuse(board, on, slower, order)
            if fuse is not None:
                return (on, order + (fuse,))
    return None


def _careless_fuse(board, on, slower, blown):
    """The first fuse that may blow next while one behind it is strained; None if there is none."""
    hot = strained(board, on, blown)
    for fuse in _next_fuses(board, on, slower, blown):
        if any([behind in hot for behind in fuses_behind(board, fuse)]):
            return fuse
    return None
