"""What the tests share: boards, values of other kinds, and a plain search to hold the program against."""

import itertools
import random

EXAMPLE = (((-1, 6), (0, 4), (0, 5)), ((1, 3), (1, 2), (2, 4), (0, 1)))
ALL_ON = (0, 1, 2, 3)
STORY = (("on", 0), ("on", 2), ("pause",), ("on", 1), ("on", 3), ("pause",))

# None of these is a tuple of fuses of a board with at most twenty of them.
NO_FUSES = (
    None, True, False, 0, 1, -1, 10 ** 39, "", "0", "(0,)", "abc", "0\n1", [], [0], [0, 1], {}, {0: 1}, {"a": []},
    (None,), (True,), (False,), (0, True), (False, 1), ("0",), ("",), ((),), ((0,),), ([],), ([0],), ({},), ({0: 0},),
    (0, None), (0, "1"), (0, [1]), (0, {}), (0, (1,)), (-1,), (-1, 0), (20,), (0, 20), (21,), (10 ** 39,),
    (-(10 ** 39),), (0, 0), (1, 1), (0, 1, 0), (0, 1, 1), ((0, 1),), (((((((((((0,),),),),),),),),),),),
    tuple(range(21)), (0,) * 2000, tuple(range(2000)), ("a" * 2000,), (None, "board"), ("lit", "dark"),
)


def chain(count):
    """The fuses of a board each of whose fuses hangs on the one ahead."""
    return tuple((index - 1, 9) for index in range(count))


def star(count):
    """The fuses of a board whose fuses hang all on the first one."""
    return tuple((-1 if index == 0 else 0, 9) for index in range(count))


def binary(count):
    """The fuses of a board each of whose fuses has two fuses on it."""
    return tuple(((index - 1) // 2, 9) for index in range(count))


def mixed(count):
    """The fuses of a board that is neither deep nor wide throughout."""
    return tuple((index - 1 if index % 3 else index // 2 - (index == 0), 9) for index in range(count))


SHAPES = (chain, star, binary, mixed)


def all_trees(count):
    """The fuses of every board of so many fuses."""
    for above in itertools.product(*[range(index) for index in range(1, count)]):
        yield tuple((fuse, 9) for fuse in (-1,) + above)


def marked(fuses, marks):
    """The fuses with other marks."""
    return tuple((above, mark) for (above, _), mark in zip(fuses, marks))


def subsets(items):
    """All ascending tuples of the items."""
    for count in range(len(items) + 1):
        yield from itertools.combinations(items, count)


def way(board, fuse):
    above = board[0][fuse][0]
    return (fuse,) if above == -1 else (fuse,) + way(board, above)


def lit_lamps(board, on, blown):
    return tuple(lamp for lamp in on if not set(way(board, board[1][lamp][0])) & set(blown))


def all_loads(board, on, blown):
    lamps = [(way(board, board[1][lamp][0]), board[1][lamp][1]) for lamp in lit_lamps(board, on, blown)]
    return tuple(sum(draw for held, draw in lamps if fuse in held) for fuse in range(len(board[0])))


def strained_fuses(board, on, blown):
    carried = all_loads(board, on, blown)
    return tuple(fuse for fuse in range(len(board[0])) if carried[fuse] > board[0][fuse][1])


def all_coming(board, on):
    """All sets of fuses that can come, each with the loads that it leaves: one fuse is blown after another."""
    found = {(): all_loads(board, on, ())}
    queue = [()]
    for blown in queue:
        for fuse in strained_fuses(board, on, blown):
            more = tuple(sorted(blown + (fuse,)))
            if more not in found:
                found[more] = all_loads(board, on, more)
                queue.append(more)
    return found


def all_ends(board, on):
    """All ends, each with the loads that it leaves."""
    marks = [mark for _, mark in board[0]]
    return {
        blown: carried
        for blown, carried in all_coming(board, on).items()
        if all(total <= mark for total, mark in zip(carried, marks))
    }


def some_board(source, fuse_count, lamp_count):
    """A board, its marks close to the loads that there can be, and some lamps that are on."""
    shape = source.randrange(3)
    above = [-1]
    for index in range(1, fuse_count):
        least = 0 if shape == 0 else max(0, index - 2)
        above.append(source.randint(least, index - 1) if shape < 2 else source.randint(0, min(index - 1, 2)))
    greatest = source.choice((1, 3, 9, 100))
    lamps = tuple((source.randrange(fuse_count), source.randint(1, greatest)) for _ in range(lamp_count))
    on = tuple(lamp for lamp in range(lamp_count) if source.random() < 0.9)
    bare = (tuple((fuse, 0) for fuse in above), lamps)
    blown = tuple(fuse for fuse in range(1, fuse_count) if source.random() < 0.3)
    marks = []
    for full, rest in zip(all_loads(bare, on, ()), all_loads(bare, on, blown)):
        near = source.choice((full, full, rest, (full + rest) // 2)) + source.choice((-1, -1, 0, 1))
        marks.append(min(3000, max(0, source.choice((near, near, near, 0)))))
    return (marked(bare[0], marks), lamps), on


def some_boards(seed, count, greatest):
    """So many pairs of a board, of at most so many fuses, and lamps that are on; always the same ones."""
    source = random.Random(seed)
    for _ in range(count):
        fuse_count = source.randint(1, greatest)
        yield some_board(source, fuse_count, source.randint(0, fuse_count + 3))


def beside(parts, mark):
    """The board in which the parts, pairs of a board and lamps on, hang all on a new first fuse; and its lamps on."""
    fuses, lamps, on = [(-1, mark)], [], []
    for (part_fuses, part_lamps), part_on in parts:
        first, first_lamp = len(fuses), len(lamps)
        fuses.extend((0 if above == -1 else above + first, part_mark) for above, part_mark in part_fuses)
        lamps.extend((fuse + first, draw) for fuse, draw in part_lamps)
        on.extend(lamp + first_lamp for lamp in part_on)
    return (tuple(fuses), tuple(lamps)), tuple(on)


def some_story(source, board, count):
    """So many deeds for the board; mostly lamps are put on, and if there are any, such as are not on."""
    story = ()
    every = tuple(range(len(board[1])))
    for _ in range(count):
        dark = tuple(lamp for lamp in every if lamp not in lamps_on(story))
        word = source.choice(("on",) * 6 + ("off", "pause")) if every else "pause"
        story += (("pause",),) if word == "pause" else ((word, source.choice((dark or every) if word == "on" else every)),)
    return story


def lamps_on(story):
    """The lamps that are on behind the story."""
    burning = set()
    for deed in story:
        if deed[0] == "on":
            burning.add(deed[1])
        elif deed[0] == "off":
            burning.discard(deed[1])
    return tuple(sorted(burning))


def may_go_on(board, story, moment, blown):
    """Whether with these fuses blown behind the deed of this moment the next deed may be done."""
    return story[moment] != ("pause",) or not strained_fuses(board, lamps_on(story[:moment + 1]), blown)


def all_runs(board, story):
    """All runs of the story: each one is told by the moment at which each fuse blows, None if it does not."""
    runs = {(None,) * len(board[0])}
    for moment in range(len(story)):
        on = lamps_on(story[:moment + 1])
        queue = list(runs)
        for run in queue:
            blown = tuple(fuse for fuse, at in enumerate(run) if at is not None)
            for fuse in strained_fuses(board, on, blown):
                more = run[:fuse] + (moment,) + run[fuse + 1:]
                if more not in runs:
                    runs.add(more)
                    queue.append(more)
        runs = {
            run for run in runs
            if may_go_on(board, story, moment, tuple(fuse for fuse, at in enumerate(run) if at is not None))
        }
    return runs


def all_blown(board, story):
    """All sets of fuses that can have come by the story."""
    sets = {()}
    for moment in range(len(story)):
        on = lamps_on(story[:moment + 1])
        queue = list(sets)
        for blown in queue:
            for fuse in strained_fuses(board, on, blown):
                more = tuple(sorted(blown + (fuse,)))
                if more not in sets:
                    sets.add(more)
                    queue.append(more)
        sets = {blown for blown in sets if may_go_on(board, story, moment, blown)}
    return sets


def is_plain_tale(board, story, tale):
    """Whether the tale, a tuple of tuples of fuses, is one of the story."""
    blown = ()
    for moment, row in enumerate(tale):
        on = lamps_on(story[:moment + 1])
        for fuse in row:
            if fuse not in strained_fuses(board, on, blown):
                return False
            blown += (fuse,)
        if not may_go_on(board, story, moment, blown):
            return False
    return len(tale) == len(story)


def some_tale(source, board, story):
    """A tale of the story, one of the strained fuses blowing after another; always to an end behind a pause."""
    tale, blown = [], ()
    for moment in range(len(story)):
        on = lamps_on(story[:moment + 1])
        row = ()
        hot = strained_fuses(board, on, blown)
        while hot and (story[moment] == ("pause",) or source.random() < 0.3):
            fuse = source.choice(hot)
            row, blown = row + (fuse,), blown + (fuse,)
            hot = strained_fuses(board, on, blown)
        tale.append(row)
    return tuple(tale)


def is_quicker(speeds, first, second):
    """Whether a row of pairs leads from the first fuse to the second one."""
    return any(quick == first and (slow == second or is_quicker(speeds, slow, second)) for quick, slow in speeds)


def all_orders_by(board, on, speeds):
    """All orders in which fuses can blow by the speeds, at first nothing being blown."""
    orders = [()]
    for order in orders:
        hot = strained_fuses(board, on, order)
        for fuse in hot:
            if not any(is_quicker(speeds, other, fuse) for other in hot):
                orders.append(order + (fuse,))
    return orders


def some_speeds(source, fuse_count, greatest):
    """Speeds of some pairs, at most so many, of so many fuses."""
    row = source.sample(range(fuse_count), fuse_count)
    pairs = list(itertools.combinations(row, 2))
    return tuple(sorted(source.sample(pairs, source.randint(0, min(greatest, len(pairs))))))


def small_boards(seed, count):
    """So many pairs of a small board and lamps that are on."""
    source = random.Random(seed)
    for _ in range(count):
        fuse_count = source.randint(1, 6)
        yield some_board(source, fuse_count, source.randint(0, 6))


# Each of these is one fuse or one lamp too great.
GREAT_BOARDS = (
    (chain(7), ()),
    (star(7), ((0, 1),) * 6),
    (chain(1), ((0, 1),) * 7),
    (chain(6), ((5, 100),) * 7),
    (chain(20), ((0, 1),) * 30),
)
