"""Promise [11], and [2] as far as it concerns always."""

import collections
import copy
import itertools
import math
import random
import time
import unittest

from firstfuse.always import (
    count_safe, heaviest_safe, is_safe, lamps_for, least_marks, most_safe, never_blows, steady,
)
from firstfuse.stories import can_have_come
from tests import plain
from tests.plain import ALL_ON, EXAMPLE, SHAPES, beside, chain, marked, star

# A call takes a tenth of a second; one that goes through all sets of lamps takes hours.
SECONDS = 5


def every_lamp(board):
    return tuple(range(len(board[1])))


def plain_safe_sets(board):
    """All safe sets of lamps, each with the load of the first fuse."""
    carried = {on: plain.all_loads(board, on, ()) for on in plain.subsets(every_lamp(board))}
    marks = [mark for _, mark in board[0]]
    return {on: loads[0] for on, loads in carried.items() if all(t <= m for t, m in zip(loads, marks))}


class AlwaysTest(unittest.TestCase):
    def check_fuses(self, board):
        """never_blows, steady and lamps_for, against searches."""
        fuses = range(len(board[0]))
        story = tuple(("on", lamp) for lamp in every_lamp(board))
        sets = plain.all_blown(board, story)
        never = tuple(fuse for fuse in fuses if not any(fuse in blown for blown in sets))
        self.assertEqual(repr(never), repr(never_blows(board)), board)
        lit = [plain.lit_lamps(board, every_lamp(board), blown) for blown in sets]
        never_dark = tuple(lamp for lamp in every_lamp(board) if all(lamp in lamps for lamps in lit))
        self.assertEqual(repr(never_dark), repr(steady(board)), board)
        for fuse in fuses:
            told = lamps_for(board, fuse)
            self.assertIs(fuse in never, told is None, (board, fuse))
            if told is not None:
                self.check_lamps_for(board, fuse, told)
            self.assertEqual(told, lamps_for(board, fuse))

    def check_lamps_for(self, board, fuse, told):
        found = [on for on in plain.subsets(every_lamp(board)) if fuse in plain.strained_fuses(board, on, ())]
        self.assertIn(told, found, (board, fuse))
        self.assertEqual(min(map(len, found)), len(told), (board, fuse))
        self.assertIs(True, can_have_come(board, tuple(("on", lamp) for lamp in told), (fuse,)))

    def check_safe(self, board):
        """is_safe, count_safe, most_safe and heaviest_safe, against all sets of lamps."""
        safe = plain_safe_sets(board)
        for on in plain.subsets(every_lamp(board)):
            self.assertIs(on in safe, is_safe(board, on), (board, on))
        self.assertEqual(repr(len(safe)), repr(count_safe(board)), board)
        most, heaviest = most_safe(board), heaviest_safe(board)
        self.assertIn(most, safe, board)
        self.assertEqual(max(map(len, safe)), len(most), board)
        self.assertIn(heaviest, safe, board)
        self.assertEqual(max(safe.values()), safe[heaviest], board)
        self.assertEqual((most, heaviest), (most_safe(board), heaviest_safe(board)))

    def test_the_example(self):
        self.assertEqual((2,), never_blows(EXAMPLE))
        self.assertEqual((), steady(EXAMPLE))
        self.assertEqual((0, 2), lamps_for(EXAMPLE, 0))
        self.assertEqual((0, 1), lamps_for(EXAMPLE, 1))
        self.assertIsNone(lamps_for(EXAMPLE, 2))
        self.assertIs(False, is_safe(EXAMPLE, ALL_ON))
        self.assertIs(True, is_safe(EXAMPLE, (1, 2)))
        # Of the twelve sets without both of 0 and 1, (0, 2), (0, 2, 3) and (1, 2, 3) are too much for fuse 0.
        self.assertEqual(9, count_safe(EXAMPLE))
        self.assertEqual(6, plain_safe_sets(EXAMPLE)[heaviest_safe(EXAMPLE)])
        self.assertEqual(2, len(most_safe(EXAMPLE)))
        self.check_fuses(EXAMPLE)
        self.check_safe(EXAMPLE)

    def test_one_fuse(self):
        for mark in range(8):
            board = (((-1, mark),), ((0, 4), (0, 3)))
            self.assertEqual((0,) if mark >= 7 else (), never_blows(board))
            self.assertEqual((0, 1) if mark >= 7 else (), steady(board))
            self.assertEqual(None if mark >= 7 else 2 if mark >= 4 else 1, lamps_for(board, 0) and len(lamps_for(board, 0)))
            self.assertEqual(1 + (mark >= 3) + (mark >= 4) + (mark >= 7), count_safe(board))
            self.check_fuses(board)
            self.check_safe(board)

    def test_no_lamps(self):
        for shape in SHAPES:
            board = (marked(shape(20), [0] * 20), ())
            self.assertEqual(tuple(range(20)), never_blows(board))
            self.assertEqual(((), (), ()), (steady(board), most_safe(board), heaviest_safe(board)))
            self.assertEqual("1", repr(count_safe(board)))
            self.assertIsNone(lamps_for(board, 0))
            self.assertIs(True, is_safe(board, ()))
            self.assertEqual((0,) * 20, least_marks(board, ((), ())))

    def test_steady_beside_a_fuse_that_blows(self):
        # Lamp 1 has fuse 1 to itself, lamps 0 and 2 do not; fuse 2 blows, fuses 0 and 1 never.
        board = (((-1, 9), (0, 3), (0, 3)), ((2, 2), (1, 3), (2, 2), (0, 1)))
        self.assertEqual((0, 1), never_blows(board))
        self.assertEqual((1, 3), steady(board))
        # If the first fuse may blow, no lamp is steady.
        board = (((-1, 7),) + board[0][1:], board[1])
        self.assertEqual((), steady(board))
        self.assertEqual((1,), never_blows(board))

    def test_as_few_lamps_as_can_be(self):
        # The heaviest ones are behind another fuse; lamp 4 hangs on no fuse behind.
        board = (((-1, 99), (0, 6), (1, 9)), ((1, 2), (2, 5), (1, 2), (2, 1), (0, 50)))
        self.assertIn(lamps_for(board, 1), ((0, 1), (1, 2)))
        self.assertIsNone(lamps_for(board, 2))
        board = (((-1, 99), (0, 7), (1, 9)), board[1])
        self.assertEqual((0, 1, 2), lamps_for(board, 1))
        self.assertIsNone(lamps_for((((-1, 99), (0, 10), (1, 9)), board[1]), 1))
        self.check_fuses(board)

    def test_the_most_lamps_are_not_the_heaviest(self):
        board = (((-1, 9),), ((0, 9), (0, 2), (0, 2), (0, 2)))
        self.assertEqual((1, 2, 3), most_safe(board))
        self.assertEqual((0,), heaviest_safe(board))
        # No greedy choice fills the mark.
        board = (((-1, 12),), ((0, 7), (0, 4), (0, 4), (0, 4)))
        self.assertEqual((1, 2, 3), heaviest_safe(board))
        # The marks behind the first fuse count, too.
        board = (((-1, 12), (0, 8)), ((0, 3), (1, 4), (1, 4), (1, 4)))
        self.assertEqual(11, plain_safe_sets(board)[heaviest_safe(board)])
        self.assertEqual(3, len(most_safe(board)))
        self.check_safe(board)

    def test_drawn_boards(self):
        for board, _ in plain.some_boards(110, 250, 7):
            self.check_fuses(board)
            self.check_safe(board)

    def test_drawn_boards_with_low_marks(self):
        source = random.Random(111)
        for _ in range(150):
            board, _ = plain.some_board(source, source.randint(1, 6), source.randint(1, 9))
            low = [source.randint(0, mark) for _, mark in board[0]]
            self.check_fuses((marked(board[0], low), board[1]))
            self.check_safe((marked(board[0], low), board[1]))

    def test_every_story_of_a_few_deeds(self):
        deeds = (("on", 0), ("on", 1), ("off", 0), ("off", 1), ("pause",))
        for marks in itertools.product((1, 2, 3), (0, 1), (1, 2)):
            board = (marked(star(3), marks), ((1, 1), (2, 2)))
            blown, dark = set(), set()
            for story in itertools.product(deeds, repeat=4):
                for end in plain.all_blown(board, story):
                    blown.update(end)
                    on = plain.lamps_on(story)
                    dark.update(set(on) - set(plain.lit_lamps(board, on, end)))
            self.assertEqual(tuple(fuse for fuse in range(3) if fuse not in blown), never_blows(board))
            self.assertEqual(tuple(lamp for lamp in range(2) if lamp not in dark), steady(board))

    def test_is_safe_with_some_lamps(self):
        for board, on in plain.some_boards(112, 100, 12):
            self.assertIs(plain.strained_fuses(board, on, ()) == (), is_safe(board, on))

    def test_passed_by_name_and_left_as_it_was(self):
        lots = ((0, 1), (2,))
        kept = copy.deepcopy((EXAMPLE, lots))
        self.assertEqual((2,), never_blows(board=EXAMPLE))
        self.assertEqual((), steady(board=EXAMPLE))
        self.assertEqual((0, 1), lamps_for(board=EXAMPLE, fuse=1))
        self.assertIs(True, is_safe(board=EXAMPLE, on=(0,)))
        self.assertEqual(9, count_safe(board=EXAMPLE))
        self.assertEqual(2, len(most_safe(board=EXAMPLE)))
        self.assertEqual(most_safe(EXAMPLE), most_safe(board=EXAMPLE))
        self.assertEqual(heaviest_safe(EXAMPLE), heaviest_safe(board=EXAMPLE))
        self.assertEqual((5, 5, 4), least_marks(board=EXAMPLE, lots=lots))
        self.assertEqual(repr(kept), repr((EXAMPLE, lots)))


class LeastMarksTest(unittest.TestCase):
    def check(self, board, lots):
        told = least_marks(board, lots)
        self.assertIs(tuple, type(told))
        carried = [plain.all_loads(board, lot, ()) for lot in lots]
        self.assertEqual(repr(tuple(max([0] + [c[f] for c in carried]) for f in range(len(board[0])))), repr(told))
        with_them = (marked(board[0], told), board[1])
        self.assertTrue(all(is_safe(with_them, lot) for lot in lots))
        for fuse, mark in enumerate(told):
            if mark > 0:
                less = (marked(board[0], told[:fuse] + (mark - 1,) + told[fuse + 1:]), board[1])
                self.assertFalse(all(is_safe(less, lot) for lot in lots))

    def test_none_one_and_several(self):
        self.assertEqual((0, 0, 0), least_marks(EXAMPLE, ()))
        self.assertEqual((0, 0, 0), least_marks(EXAMPLE, ((),)))
        self.assertEqual((10, 5, 4), least_marks(EXAMPLE, (ALL_ON,)))
        self.assertEqual((5, 5, 0), least_marks(EXAMPLE, ((0, 1),)))
        # One lot is the most for fuse 1, another one for fuse 2; their loads of fuse 0 are 5 and 5.
        self.assertEqual((5, 5, 4), least_marks(EXAMPLE, ((0, 1), (2, 3))))
        self.assertEqual((5, 5, 4), least_marks(EXAMPLE, ((2, 3), (), (0, 1), (0, 1))))

    def test_marks_of_the_board_are_of_no_weight(self):
        for mark in (0, 1, 5, 3000):
            self.assertEqual((7, 3, 4), least_marks((marked(EXAMPLE[0], [mark] * 3), EXAMPLE[1]), ((0, 2),)))

    def test_drawn_lots(self):
        source = random.Random(113)
        for board, _ in plain.some_boards(113, 200, 12):
            lamps = every_lamp(board)
            lots = [tuple(lamp for lamp in lamps if source.random() < 0.4) for _ in range(source.randint(0, 5))]
            self.check(board, tuple(lots))

    def test_thirty_lamps(self):
        for shape in SHAPES:
            board = (marked(shape(20), [0] * 20), tuple((lamp % 20, 100) for lamp in range(30)))
            self.assertEqual(3000, least_marks(board, (tuple(range(30)),))[0])
            self.check(board, (tuple(range(30)), tuple(range(0, 30, 2)), ()))


class ThirtyLampsTest(unittest.TestCase):
    def quick(self, function, *told):
        begun = time.process_time()
        result = function(*told)
        self.assertLess(time.process_time() - begun, SECONDS, (function, told))
        return result

    def check(self, board, many, most, heaviest):
        """The numbers of safe sets, of the most lamps in one and of the greatest load are to be these."""
        self.assertEqual(many, self.quick(count_safe, board), board)
        for function in (most_safe, heaviest_safe):
            on = self.quick(function, board)
            self.assertEqual(list(on), sorted(set(on)))
            self.assertEqual((), plain.strained_fuses(board, on, ()), board)
            self.assertIs(True, self.quick(is_safe, board, on))
        self.assertEqual(most, len(most_safe(board)), board)
        self.assertEqual(heaviest, plain.all_loads(board, heaviest_safe(board), ())[0], board)
        self.quick(never_blows, board)
        self.quick(steady, board)
        for fuse in range(len(board[0])):
            self.quick(lamps_for, board, fuse)

    def test_all_alike(self):
        for mark in (0, 6, 7, 100, 104, 105, 209, 210, 3000):
            whole = min(30, mark // 7)
            many = sum(math.comb(30, count) for count in range(whole + 1))
            self.check((((-1, mark),), ((0, 7),) * 30), many, whole, 7 * whole)

    def test_all_sums(self):
        # Draws of 1 to 16 fill each mark exactly; the rest is far too much.
        lamps = tuple((0, 2 ** power) for power in range(5)) + ((0, 100),) * 25
        for mark in range(32):
            self.check((((-1, mark),), lamps), mark + 1, max(bin(load).count("1") for load in range(mark + 1)), mark)

    def test_a_row_of_marks(self):
        # Thirty lamps of 1 on a row of fifteen fuses, two on each, whose marks leave fewer and fewer.
        for step in (1, 2, 3):
            marks = [max(0, 29 - step * fuse) for fuse in range(15)]
            board = (marked(chain(15), marks), tuple((lamp // 2, 1) for lamp in range(30)))
            counts = [1]
            for fuse in range(14, -1, -1):
                for _ in range(2):
                    counts = [a + b for a, b in zip(counts + [0], [0] + counts)]
                counts = counts[:marks[fuse] + 1]
            self.check(board, sum(counts), len(counts) - 1, len(counts) - 1)

    def test_parts_side_by_side(self):
        source = random.Random(114)
        for _ in range(15):
            sizes = ((6, 9), (6, 10), (7, 10))
            parts = [plain.some_board(source, *size) for size in sizes]
            safe = [plain_safe_sets(part) for part, _ in parts]
            sums, most = collections.Counter({0: 1}), {0: 0}
            for sets in safe:
                more, wider = collections.Counter(), {}
                for load, lamps in {(load, len(on)) for on, load in sets.items()}:
                    for total, many in most.items():
                        wider[total + load] = max(wider.get(total + load, 0), many + lamps)
                for load, number in collections.Counter(sets.values()).items():
                    for total, many in sums.items():
                        more[total + load] += many * number
                sums, most = more, wider
            for mark in {3000, max(sums), max(sums) - 1, max(sums) // 2, max(sums) // 5, 0}:
                if mark >= 0:
                    left = [load for load in sums if load <= mark]
                    board, _ = beside(parts, mark)
                    self.check(board, sum(sums[load] for load in left), max(most[load] for load in left), max(left))

    def test_many_unlike_loads(self):
        source = random.Random(115)
        for parts in (1, 2, 3, 4, 6, 12):
            for mark in (3000, 900, 300):
                fuses = ((-1, 3000), (0, 2900)) + ((1, mark),) * parts
                lamps = tuple((2 + lamp % parts, source.randint(50, 100)) for lamp in range(30))
                on = self.quick(heaviest_safe, (fuses, lamps))
                self.assertEqual((), plain.strained_fuses((fuses, lamps), on, ()))
                self.assertTrue(1 <= self.quick(count_safe, (fuses, lamps)) <= 2 ** 30)
                self.assertGreaterEqual(len(self.quick(most_safe, (fuses, lamps))), len(on))


if __name__ == "__main__":
    unittest.main()
