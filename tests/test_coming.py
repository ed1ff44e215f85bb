"""Promise [5], guarantees (a), (c) and (d) of [1], and [2] as far as they concern coming."""

import copy
import itertools
import random
import unittest

from firstfuse.coming import bar_for, can_come, count_come, is_order, order_for
from tests import plain
from tests.plain import ALL_ON, EXAMPLE, NO_FUSES, chain, marked, star


def plain_bar(board, on, blown):
    """bar_for by its words."""
    for fuse in blown:
        behind = tuple(other for other in blown if other != fuse and fuse in plain.way(board, other))
        if fuse not in plain.strained_fuses(board, on, behind):
            return fuse
    return None


def is_plain_order(board, on, order):
    return all(fuse in plain.strained_fuses(board, on, order[:index]) for index, fuse in enumerate(order))


class ComingTest(unittest.TestCase):
    def check_set(self, board, on, blown, comes):
        """All functions are to tell of the blown fuses whether they can come."""
        where = (board, on, blown)
        self.assertIs(comes, can_come(board, on, blown), where)
        bar = bar_for(board, on, blown)
        order = order_for(board, on, blown)
        self.assertEqual(repr(plain_bar(board, on, blown)), repr(bar), where)
        self.assertIs(comes, bar is None, where)
        # Guarantee (a): just one of both is not None.
        self.assertIs(comes, order is not None, where)
        if order is not None:
            self.assertIs(tuple, type(order), where)
            self.assertEqual(blown, tuple(sorted(order)), where)
            self.assertTrue(is_plain_order(board, on, order), where)
            self.assertIs(True, is_order(board, on, order), where)
        self.assertEqual(order, order_for(board, on, blown), where)

    def check(self, board, on):
        """All sets of fuses, against the search."""
        coming = plain.all_coming(board, on)
        for blown in plain.subsets(range(len(board[0]))):
            self.check_set(board, on, blown, blown in coming)
        self.assertEqual(len(coming), count_come(board, on), (board, on))
        self.assertIs(int, type(count_come(board, on)))

    def test_the_example(self):
        self.assertEqual(3, count_come(EXAMPLE, ALL_ON))
        for blown in ((), (0,), (1,)):
            self.check_set(EXAMPLE, ALL_ON, blown, True)
        for blown in ((2,), (0, 1), (0, 2), (1, 2), (0, 1, 2)):
            self.check_set(EXAMPLE, ALL_ON, blown, False)
        self.assertEqual(0, bar_for(EXAMPLE, ALL_ON, (0, 1)))
        self.assertEqual(2, bar_for(EXAMPLE, ALL_ON, (1, 2)))
        self.assertIsNone(bar_for(EXAMPLE, ALL_ON, (1,)))
        self.assertEqual((1,), order_for(EXAMPLE, ALL_ON, (1,)))
        self.assertEqual((), order_for(EXAMPLE, ALL_ON, ()))
        self.assertIsNone(order_for(EXAMPLE, ALL_ON, (0, 1)))
        self.check(EXAMPLE, ALL_ON)

    def test_one_fuse(self):
        for mark, number in ((3, 2), (4, 1), (5, 1), (0, 2)):
            board = (((-1, mark),), ((0, 4),))
            self.assertEqual(number, count_come(board, (0,)))
            self.assertEqual(1, count_come(board, ()))
            self.check(board, (0,))
            self.check(board, ())
        self.check((((-1, 0),), ()), ())

    def test_what_is_behind_blows_first(self):
        # Each draws enough for itself, so all can blow, but only from behind.
        board = (marked(chain(3), (0, 0, 0)), ((0, 1), (1, 1), (2, 1)))
        on = (0, 1, 2)
        self.assertEqual(8, count_come(board, on))
        self.assertEqual((2, 1, 0), order_for(board, on, (0, 1, 2)))
        for order in itertools.permutations((0, 1, 2)):
            self.assertIs(order == (2, 1, 0), is_order(board, on, order))

    def test_a_fuse_relieved_by_one_behind_it(self):
        # Fuse 0 carries 9 with a mark of 4: it is relieved by fuse 1 (5), but not by fuse 2 (4).
        board = (((-1, 4), (0, 0), (0, 0)), ((1, 5), (2, 4)))
        self.assertEqual(None, bar_for(board, (0, 1), (0, 2)))
        self.assertEqual(0, bar_for(board, (0, 1), (0, 1)))
        self.assertEqual((2, 0), order_for(board, (0, 1), (0, 2)))
        self.assertIs(True, is_order(board, (0, 1), (2, 0)))
        self.assertIs(False, is_order(board, (0, 1), (0, 2)))
        self.assertIs(False, is_order(board, (0, 1), (1, 0)))
        self.assertEqual(6, count_come(board, (0, 1)))

    def test_the_least_bar(self):
        board = (marked(star(4), (0, 9, 9, 9)), ((1, 3), (2, 3)))
        self.assertEqual(2, bar_for(board, (0, 1), (2, 3)))
        self.assertEqual(0, bar_for(board, (0, 1), (0, 1, 2)))
        self.assertEqual(1, bar_for(board, (0, 1), (0, 1)))
        self.assertEqual(1, bar_for(board, (0, 1), (0, 1, 3)))
        self.assertEqual(0, bar_for(board, (0,), (0, 1)))
        # What is not behind a fuse takes nothing off it, blown or not.
        self.assertEqual(3, bar_for(board, (0, 1), (0, 3)))

    def test_all_sets_of_small_boards(self):
        for board, on in plain.some_boards(5, 260, 7):
            self.check(board, on)

    def test_all_sets_of_boards_of_seven_fuses(self):
        source = random.Random(51)
        for _ in range(60):
            self.check(*plain.some_board(source, 7, source.randint(3, 10)))

    def test_all_rows_of_small_boards(self):
        for board, on in plain.some_boards(52, 60, 4):
            count = len(board[0])
            for length in range(count + 2):
                for row in itertools.product(range(-1, count + 1), repeat=length):
                    unlike = len(set(row)) == length and all(0 <= fuse < count for fuse in row)
                    self.assertIs(unlike and is_plain_order(board, on, row), is_order(board, on, row), (board, on, row))

    def test_some_rows_of_boards_of_seven_fuses(self):
        source = random.Random(53)
        accepted = 0
        for _ in range(400):
            board, on = plain.some_board(source, 7, 9)
            row = tuple(source.sample(range(7), source.randint(1, 4)))
            accepted += is_plain_order(board, on, row)
            self.assertIs(is_plain_order(board, on, row), is_order(board, on, row), (board, on, row))
        self.assertGreater(accepted, 20)

    def test_values_of_other_kinds(self):
        hot = (marked(chain(20), [0] * 20), tuple((fuse, 1) for fuse in range(20)))
        lamps = tuple(range(20))
        for value in NO_FUSES:
            kept = copy.deepcopy(value)
            for board, on in ((hot, lamps), (EXAMPLE, ALL_ON), ((((-1, 0),), ((0, 1),)), (0,))):
                self.assertIs(False, can_come(board, on, value), value)
                self.assertIs(False, is_order(board, on, value), value)
            self.assertEqual(repr(kept), repr(value))
        for value in ((0, 3), (3,), (0, -1)):
            self.assertIs(False, can_come(EXAMPLE, ALL_ON, value))
            self.assertIs(False, is_order(EXAMPLE, ALL_ON, value))
        for value in ((1, True), (0, "1"), (1, None), (1, [0])):
            self.assertIs(False, is_order(hot, lamps, value))
        # A list, or a dict, of fuses that can come is no tuple of them.
        for value in ([], [0], [1], {1: 0}, {}, "", " ", None):
            self.assertIs(False, can_come(EXAMPLE, ALL_ON, value))
            self.assertIs(False, is_order(EXAMPLE, ALL_ON, value))

    def test_sets_that_are_not_ascending(self):
        hot = (marked(chain(3), [0] * 3), ((0, 1), (1, 1), (2, 1)))
        for value in itertools.permutations((0, 1, 2)):
            self.assertIs(value == (0, 1, 2), can_come(hot, (0, 1, 2), value))
        for value in ((1, 0), (2, 1), (2, 0), (0, 0), (2, 2), (0, 1, 1), (0, 0, 1)):
            self.assertIs(False, can_come(hot, (0, 1, 2), value), value)
        for value in ((0, 0), (2, 2), (2, 1, 1), (2, 1, 2)):
            self.assertIs(False, is_order(hot, (0, 1, 2), value), value)

    def test_passed_by_name(self):
        self.assertIs(True, can_come(board=EXAMPLE, on=ALL_ON, value=(1,)))
        self.assertIs(True, is_order(board=EXAMPLE, on=ALL_ON, value=(1,)))
        self.assertEqual((0,), order_for(board=EXAMPLE, on=ALL_ON, blown=(0,)))
        self.assertEqual(0, bar_for(board=EXAMPLE, on=ALL_ON, blown=(0, 1)))
        self.assertEqual(3, count_come(board=EXAMPLE, on=ALL_ON))


class FamiliesTest(unittest.TestCase):
    def test_side_by_side(self):
        for count in range(20):
            board = (marked(star(count + 1), [3000] + [0] * count), tuple((fuse, 1) for fuse in range(1, count + 1)))
            self.assertEqual(2 ** count, count_come(board, tuple(range(count))))
            # Only those with a lamp on want to blow.
            self.assertEqual(2 ** (count // 2), count_come(board, tuple(range(count // 2))))

    def test_side_by_side_behind_one_that_blows(self):
        for count in range(20):
            board = (marked(star(count + 1), [0] * (count + 1)), tuple((fuse, 1) for fuse in range(1, count + 1)))
            # The first one blows as long as one of the others is whole.
            self.assertEqual(2 ** (count + 1) - 1, count_come(board, tuple(range(count))))

    def test_a_row_with_a_lamp_on_each(self):
        for count in range(1, 21):
            board = (marked(chain(count), [0] * count), tuple((fuse, 100) for fuse in range(count)))
            self.assertEqual(2 ** count, count_come(board, tuple(range(count))))

    def test_a_row_with_a_lamp_on_the_last(self):
        for count in range(1, 21):
            board = (marked(chain(count), [0] * count), ((count - 1, 7),))
            self.assertEqual(count + 1, count_come(board, (0,)))

    def test_no_lamp_on(self):
        for shape in plain.SHAPES:
            self.assertEqual(1, count_come((marked(shape(20), [0] * 20), ((19, 1),)), ()))


if __name__ == "__main__":
    unittest.main()
