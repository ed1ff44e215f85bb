"""What the tests share: boards, values of other kinds, and a plain search to hold the program against."""

import itertools
import random

EXAMPLE = (((-1, 6), (0, 4), (0, 5)), ((1, 3), (1, 2), (2, 4), (0, 1)))
ALL_ON = (0, 1, 2, 3)

# None of these is a tuple of fuses of a board with at most twenty of them.
NO_FUSES = (
    None, True, False, 0, 1, -1, 10 ** 39, "", "0", "(0,)", "abc", "0\n1", [], [0], [0, 1], {}, {0: 1}, {"a": []},
    (None,), (True,), (False,), (0, True), (False, 1), ("0",), ("",), ((),), ((0,),), ([],), ([0],), ({},), ({0: 0},),
    (0, None), (0, "1"), (0, [1]), (0, {}), (0, (1,)), (-1,), (-1, 0), (20,), (0, 20), (21,), (10 ** 39,),
    (-(10 ** 39),), (0, 0), (1, 1), (0, 1, 0), (0, 1, 1), ((0, 1),), (((((((((((0,),),),),),),),),),),),
    tuple(range(21)), (0,) * 2000, tuple(range(2000)), ("a" * 2000,), (None, "board"), ("lit", "dark"),
)


def chain(count):
    """The fuses of a board each of whose fuses hangs on the one ahead."""
    return tuple((index - 1, 9) for index in range(count))


def star(count):
    """The fuses of a board whose fuses hang all on the first one."""
    return tuple((-1 if index == 0 else 0, 9) for index in range(count))


def binary(count):
    """The fuses of a board each of whose fuses has two fuses on it."""
    return tuple(((index - 1) // 2, 9) for index in range(count))


def mixed(count):
    """The fuses of a board that is neither deep nor wide throughout."""
    return tuple((index - 1 if index % 3 else index // 2 - (index == 0), 9) for index in range(count))


SHAPES = (chain, star, binary, mixed)


def all_trees(count):
    """The fuses of every board of so many fuses."""
    for above in itertools.product(*[range(index) for index in range(1, count)]):
        yield tuple((fuse, 9) for fuse in (-1,) + above)


def marked(fuses, marks):
    """The fuses with other marks."""
    return tuple((above, mark) for (above, _), mark in zip(fuses, marks))


def subsets(items):
    """All ascending tuples of the items."""
    for count in range(len(items) + 1):
        yield from itertools.combinations(items, count)


def way(board, fuse):
    above = board[0][fuse][0]
    return (fuse,) if above == -1 else (fuse,) + way(board, above)


def lit_lamps(board, on, blown):
    return tuple(lamp for lamp in on if not set(way(board, board[1][lamp][0])) & set(blown))


def all_loads(board, on, blown):
    lamps = [(way(board, board[1][lamp][0]), board[1][lamp][1]) for lamp in lit_lamps(board, on, blown)]
    return tuple(sum(draw for held, draw in lamps if fuse in held) for fuse in range(len(board[0])))


def strained_fuses(board, on, blown):
    carried = all_loads(board, on, blown)
    return tuple(fuse for fuse in range(len(board[0])) if carried[fuse] > board[0][fuse][1])


def all_coming(board, on):
    """All sets of fuses that can come, each with the loads that it leaves: one fuse is blown after another."""
    found = {(): all_loads(board, on, ())}
    queue = [()]
    for blown in queue:
        for fuse in strained_fuses(board, on, blown):
            more = tuple(sorted(blown + (fuse,)))
            if more not in found:
                found[more] = all_loads(board, on, more)
                queue.append(more)
    return found


def all_ends(board, on):
    """All ends, each with the loads that it leaves."""
    marks = [mark for _, mark in board[0]]
    return {
        blown: carried
        for blown, carried in all_coming(board, on).items()
        if all(total <= mark for total, mark in zip(carried, marks))
    }


def some_board(source, fuse_count, lamp_count):
    """A board, its marks close to the loads that there can be, and some lamps that are on."""
    shape = source.randrange(3)
    above = [-1]
    for index in range(1, fuse_count):
        least = 0 if shape == 0 else max(0, index - 2)
        above.append(source.randint(least, index - 1) if shape < 2 else source.randint(0, min(index - 1, 2)))
    greatest = source.choice((1, 3, 9, 100))
    lamps = tuple((source.randrange(fuse_count), source.randint(1, greatest)) for _ in range(lamp_count))
    on = tuple(lamp for lamp in range(lamp_count) if source.random() < 0.9)
    bare = (tuple((fuse, 0) for fuse in above), lamps)
    blown = tuple(fuse for fuse in range(1, fuse_count) if source.random() < 0.3)
    marks = []
    for full, rest in zip(all_loads(bare, on, ()), all_loads(bare, on, blown)):
        near = source.choice((full, full, rest, (full + rest) // 2)) + source.choice((-1, -1, 0, 1))
        marks.append(min(3000, max(0, source.choice((near, near, near, 0)))))
    return (marked(bare[0], marks), lamps), on


def some_boards(seed, count, greatest):
    """So many pairs of a board, of at most so many fuses, and lamps that are on; always the same ones."""
    source = random.Random(seed)
    for _ in range(count):
        fuse_count = source.randint(1, greatest)
        yield some_board(source, fuse_count, source.randint(0, fuse_count + 3))


def beside(parts, mark):
    """The board in which the parts, pairs of a board and lamps on, hang all on a new first fuse; and its lamps on."""
    fuses, lamps, on = [(-1, mark)], [], []
    for (part_fuses, part_lamps), part_on in parts:
        first, first_lamp = len(fuses), len(lamps)
        fuses.extend((0 if above == -1 else above + first, part_mark) for above, part_mark in part_fuses)
        lamps.extend((fuse + first, draw) for fuse, draw in part_lamps)
        on.extend(lamp + first_lamp for lamp in part_on)
    return (tuple(fuses), tuple(lamps)), tuple(on)
