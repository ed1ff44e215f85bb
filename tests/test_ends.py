"""Promise [6], guarantees (c) and (d) of [1], and [2] as far as they concern ends."""

import copy
import math
import random
import unittest

from firstfuse.ends import count_ends, fewest_end, greatest_load, is_end, least_load, most_end
from tests import plain
from tests.plain import ALL_ON, EXAMPLE, NO_FUSES, chain, marked, star


class EndsTest(unittest.TestCase):
    def check(self, board, on):
        """All functions of ends, against the search."""
        where = (board, on)
        ends = plain.all_ends(board, on)
        for blown in plain.subsets(range(len(board[0]))):
            self.assertIs(blown in ends, is_end(board, on, blown), (where, blown))
        sizes = [len(blown) for blown in ends]
        for told, size in ((fewest_end(board, on), min(sizes)), (most_end(board, on), max(sizes))):
            self.assertIn(told, ends, where)
            self.assertIs(True, is_end(board, on, told), where)
            self.assertEqual(size, len(told), where)
        first_loads = [carried[0] for carried in ends.values()]
        for told, number in (
            (count_ends(board, on), len(ends)),
            (least_load(board, on), min(first_loads)),
            (greatest_load(board, on), max(first_loads)),
        ):
            self.assertEqual(repr(number), repr(told), where)
        self.assertEqual(fewest_end(board, on), fewest_end(board, on))
        self.assertEqual(most_end(board, on), most_end(board, on))

    def test_the_example(self):
        for blown in plain.subsets((0, 1, 2)):
            self.assertIs(blown in ((0,), (1,)), is_end(EXAMPLE, ALL_ON, blown))
        self.assertEqual(2, count_ends(EXAMPLE, ALL_ON))
        self.assertEqual(5, greatest_load(EXAMPLE, ALL_ON))
        self.assertEqual(0, least_load(EXAMPLE, ALL_ON))
        self.assertIn(fewest_end(EXAMPLE, ALL_ON), ((0,), (1,)))
        self.assertIn(most_end(EXAMPLE, ALL_ON), ((0,), (1,)))
        self.check(EXAMPLE, ALL_ON)

    def test_at_rest_from_the_first(self):
        for on in ((), (3,), (2,), (0, 3), (2, 3)):
            self.assertEqual(1, count_ends(EXAMPLE, on))
            self.assertEqual(((), ()), (fewest_end(EXAMPLE, on), most_end(EXAMPLE, on)))
            self.assertIs(True, is_end(EXAMPLE, on, ()))
            self.check(EXAMPLE, on)
        self.assertEqual((5, 5), (least_load(EXAMPLE, (2, 3)), greatest_load(EXAMPLE, (2, 3))))

    def test_one_fuse(self):
        for mark, end, left in ((3, (0,), 0), (4, (), 4), (5, (), 4), (0, (0,), 0)):
            board = (((-1, mark),), ((0, 4),))
            self.assertEqual((end, end), (fewest_end(board, (0,)), most_end(board, (0,))))
            self.assertEqual((left, left), (least_load(board, (0,)), greatest_load(board, (0,))))
            self.assertEqual(1, count_ends(board, (0,)))
            self.check(board, (0,))
            self.check(board, ())
        self.check((((-1, 0),), ()), ())

    def test_at_rest_is_not_enough(self):
        # With fuse 2 blown nothing would be strained, but it cannot blow.
        board = (((-1, 4), (0, 9), (0, 9)), ((1, 3), (2, 3)))
        self.assertIs(False, is_end(board, (0, 1), (2,)))
        self.assertIs(False, is_end(board, (0, 1), ()))
        self.assertIs(True, is_end(board, (0, 1), (0,)))
        self.check(board, (0, 1))

    def test_few_and_many(self):
        # Three want to blow side by side, and what they hang on wants it only as long as they all are whole.
        board = (((-1, 3000), (0, 5), (1, 0), (1, 0), (1, 0)), ((2, 2), (3, 2), (4, 2)))
        on = (0, 1, 2)
        self.assertEqual((1,), fewest_end(board, on))
        self.assertEqual((2, 3, 4), most_end(board, on))
        self.assertEqual(2, count_ends(board, on))
        # With a lower mark it can blow last, behind two of them.
        board = (marked(board[0], (3000, 1, 0, 0, 0)), board[1])
        self.assertEqual((1,), fewest_end(board, on))
        self.assertEqual(3, len(most_end(board, on)))
        self.assertEqual(8, count_ends(board, on))
        self.check(board, on)

    def test_the_greatest_load_is_no_greedy_sum(self):
        # Of the pairs (1, 2), (3, 4) and (5, 6) the front one or the back one blows; 4 + 6 + 9 is too much.
        fuses = ((-1, 17), (0, 9), (1, 5), (0, 12), (3, 5), (0, 14), (5, 4))
        lamps = ((1, 4), (2, 6), (3, 6), (4, 7), (5, 9), (6, 6))
        on = tuple(range(6))
        self.assertEqual(15, greatest_load((fuses, lamps), on))
        self.assertEqual(0, least_load((fuses, lamps), on))
        self.check((fuses, lamps), on)
        fuses = ((-1, 19),) + fuses[1:]
        self.assertEqual(19, greatest_load((fuses, lamps), on))

    def test_small_boards(self):
        for board, on in plain.some_boards(6, 300, 7):
            self.check(board, on)

    def test_boards_of_seven_fuses(self):
        source = random.Random(61)
        counts = []
        for _ in range(100):
            board, on = plain.some_board(source, 7, source.randint(3, 12))
            self.check(board, on)
            counts.append(count_ends(board, on))
        self.assertGreater(len(set(counts)), 5)

    def test_values_of_other_kinds(self):
        hot = (marked(chain(20), [0] * 20), tuple((fuse, 1) for fuse in range(20)))
        for value in NO_FUSES:
            kept = copy.deepcopy(value)
            for board, on in ((hot, tuple(range(20))), (EXAMPLE, ALL_ON), (EXAMPLE, ()), ((((-1, 0),), ((0, 1),)), (0,))):
                self.assertIs(False, is_end(board, on, value), value)
            self.assertEqual(repr(kept), repr(value))
        for value in ([], [0], [1], {0: 1}, "", None, (3,), (0, 3), (-1,), (0, 0), (1, 1), ((0,),), (True,), (False,)):
            self.assertIs(False, is_end(EXAMPLE, ALL_ON, value), value)
        self.assertIs(True, is_end(hot, tuple(range(20)), (0, 1)))
        self.assertIs(False, is_end(hot, tuple(range(20)), (1, 0)))

    def test_passed_by_name(self):
        self.assertIs(True, is_end(board=EXAMPLE, on=ALL_ON, value=(1,)))
        self.assertEqual(2, count_ends(board=EXAMPLE, on=ALL_ON))
        self.assertEqual(1, len(fewest_end(board=EXAMPLE, on=ALL_ON)))
        self.assertEqual(1, len(most_end(board=EXAMPLE, on=ALL_ON)))
        self.assertEqual(0, least_load(board=EXAMPLE, on=ALL_ON))
        self.assertEqual(5, greatest_load(board=EXAMPLE, on=ALL_ON))


class FamiliesTest(unittest.TestCase):
    def test_side_by_side(self):
        for count in range(20):
            on = tuple(range(count))
            lamps = tuple((fuse, 1) for fuse in range(1, count + 1))
            for mark in {0, 1, count // 2, max(0, count - 1), count}:
                board = (marked(star(count + 1), [mark] + [0] * count), lamps)
                # The first one blows while more than mark of the others are whole, or all the others do.
                many = sum(math.comb(count, whole) for whole in range(mark + 1, count + 1))
                self.assertEqual(many + 1, count_ends(board, on))
                self.assertEqual(1 if many else count, len(fewest_end(board, on)))
                self.assertEqual(count, len(most_end(board, on)))
                self.assertEqual((0, 0), (least_load(board, on), greatest_load(board, on)))

    def test_a_row_with_a_lamp_on_each(self):
        for count in range(1, 21):
            board = (marked(chain(count), [0] * count), tuple((fuse, 100) for fuse in range(count)))
            on = tuple(range(count))
            self.assertEqual(2 ** (count - 1), count_ends(board, on))
            self.assertEqual((0,), fewest_end(board, on))
            self.assertEqual(on, most_end(board, on))

    def test_a_row_with_a_lamp_on_the_last(self):
        for count in range(1, 21):
            board = (marked(chain(count), [0] * count), ((count - 1, 7),))
            self.assertEqual(count, count_ends(board, (0,)))
            self.assertEqual((1, 1), (len(fewest_end(board, (0,))), len(most_end(board, (0,)))))


if __name__ == "__main__":
    unittest.main()
