"""In what ends a board can come to rest."""

from firstfuse.coming import can_come, come_counts, count_blowing, summed_counts, with_blown
from firstfuse.loads import at_rest, load, loads, own_draws, strained


def is_end(board, on, value):
    """Whether value is an ascending tuple of fuses that is an end."""
    return can_come(board, on, value) and at_rest(board, on, value)


def count_ends(board, on):
    """How many ends there are."""
    fuses = board[0]
    come = come_counts(board, on)
    # As in come_counts, but of the sets that leave all at rest; the main line stands last.
    counts = [{draw: 1} for draw in own_draws(board, on)] + [{0: 1}]
    for fuse in range(len(fuses) - 1, -1, -1):
        above, mark = fuses[fuse]
        resting = {total: many for total, many in counts[fuse].items() if total <= mark}
        # Behind a blown fuse nothing is strained: there, all that can come is at rest.
        ends = with_blown(resting, count_blowing(come[fuse], mark))
        counts[above] = summed_counts(counts[above], ends)
    return sum(counts[-1].values())


def fewest_end(board, on):
    """An end with as few fuses as there are in an end."""
    ends = _ends_by_size(board, on)
    return ends[min(ends)]


def most_end(board, on):
    """An end with as many fuses as there are in an end."""
    ends = _ends_by_size(board, on)
    return ends[max(ends)]


def least_load(board, on):
    """The least load of the first fuse in an end."""
    # If all that are strained at first blow, those above ahead of those behind, the least is left.
    return load(board, on, strained(board, on, ()), 0)


def greatest_load(board, on):
    """The greatest load of the first fuse in an end."""
    fuses = board[0]
    early = strained(board, on, ())
    # The loads that ends can leave each fuse, and last the main line, at -1.
    found = [[draw] for draw in own_draws(board, on)] + [[0]]
    for fuse in range(len(fuses) - 1, -1, -1):
        above, mark = fuses[fuse]
        resting = [total for total in found[fuse] if total <= mark]
        # With nothing blown behind it its load is greatest: if it is not strained then, it never is.
        ends = (resting + [0]) if fuse in early else resting
        found[above] = _sums(found[above], ends)
    return max(found[-1])


def _sums(first, second):
    """The ascending list of the sums of a load of the one and a load of the other."""
    return sorted({total + more for total in first for more in second})


def _ends_by_size(board, on):
    """A dict with an end for each number of fuses that there are in an end."""
    starts = [{0: (draw, ())} for draw in own_draws(board, on)]
    return best_ends(board, starts, _blown_by_size(board, on))


def _blown_by_size(board, on):
    """For each fuse a dict by numbers: so many fuses, it and others behind it, that can come."""
    fuses = board[0]
    full = loads(board, on, ())
    # What is taken off the load by the fuses blown: the less it is, the more can blow above them.
    taken = [{0: (0, ())} for _ in fuses] + [{0: (0, ())}]
    blows = [{} for _ in fuses]
    for fuse in range(len(fuses) - 1, -1, -1):
        above, mark = fuses[fuse]
        for number, (loss, blown) in taken[fuse].items():
            if full[fuse] - loss > mark:
                blows[fuse][number + 1] = blown + (fuse,)
        with_this = _cheaper(taken[fuse], blows[fuse], full[fuse])
        taken[above] = _joined(taken[above], with_this)
    return blows


def best_ends(board, starts, blows):
    """A dict with an end for each number that an end can have.

    The number is a sum over the parts of the tree. starts is a list with, for each fuse left whole, a dict of
    its own number with what is drawn straight from it and (); blows has for each fuse a dict of
    numbers with fuses that can come, the fuse itself and others behind it.
    """
    fuses = board[0]
    # The less is drawn, the more is at rest above: so the choice with the least load is as good as any.
    choices = starts + [{0: (0, ())}]
    for fuse in range(len(fuses) - 1, -1, -1):
        above, mark = fuses[fuse]
        resting = {number: choice for number, choice in choices[fuse].items() if choice[0] <= mark}
        choices[above] = _joined(choices[above], _cheaper(resting, blows[fuse], 0))
    return {number: tuple(sorted(blown)) for number, (_, blown) in choices[-1].items()}


def _cheaper(choices, blows, cost):
    """For each number the cheaper one of the choices and of those of blows, which have this cost."""
    cheapest = {number: choice for number, choice in choices.items()}
    for number, blown in blows.items():
        _keep_cheaper(cheapest, number, (cost, blown))
    return cheapest


def _joined(first, second):
    """For each sum of a number of the one and one of the other the cheapest pair of their choices."""
    cheapest = {}
    for number, (cost, blown) in first.items():
        for more, (price, others) in second.items():
            _keep_cheaper(cheapest, number + more, (cost + price, blown + others))
    return cheapest


def _keep_cheaper(choices, number, choice):
    """Puts the choice among the choices, unless they have one of its number that costs no more."""
    if number not in choices or choice[0] < choices[number][0]:
        choices[number] = choice
