"""Promise [3], and [2] as far as it concerns boards."""

import copy
import unittest

from firstfuse.boards import board_error, fuses_behind, lamps_behind, way_of
from tests.plain import EXAMPLE, SHAPES, all_trees, chain, star

FIRST = (-1, 6)
NO_TUPLES = (None, True, False, 0, -1, 10 ** 39, "", "ab", "(1, 2)", [], [1, 2], {}, {0: 1, 1: 2}, [(0, 1)])
NO_PAIRS = NO_TUPLES + ((), (0,), (0, 1, 2), [0, 1], {0: 0, 1: 1}, ((0, 1),))
NO_INTEGERS = (None, True, False, "", "0", (), (0,), [0], {0: 0})


class BoardsThatAreBoards(unittest.TestCase):
    def check(self, value):
        self.assertIsNone(board_error(value))

    def test_the_example(self):
        self.check(EXAMPLE)

    def test_one_fuse(self):
        self.check((((-1, 0),), ()))
        self.check((((-1, 3000),), ((0, 1),)))

    def test_many_sizes(self):
        for count in range(1, 21):
            for fuses in [shape(count) for shape in SHAPES]:
                for lamp_count in (0, 1, 7, 29, 30):
                    self.check((fuses, tuple((lamp % count, 1 + lamp) for lamp in range(lamp_count))))

    def test_the_greatest(self):
        self.check(((FIRST,) + tuple((index, 3000) for index in range(19)), ((19, 100),) * 30))

    def test_all_small_trees(self):
        for count in range(1, 6):
            for fuses in all_trees(count):
                self.check((fuses, ()))

    def test_marks(self):
        for mark in (0, 1, 2999, 3000):
            self.check((((-1, mark),), ()))
            self.check((((-1, 6), (0, mark)), ()))

    def test_draws(self):
        for draw in (1, 2, 99, 100):
            self.check(((FIRST,), ((0, 1), (0, draw))))

    def test_passed_by_name(self):
        self.assertIsNone(board_error(value=EXAMPLE))
        self.assertEqual((None, "board"), board_error(value=None))


class BoardsThatAreNone(unittest.TestCase):
    def check(self, error, value):
        kept = copy.deepcopy(value)
        told = board_error(value)
        self.assertEqual(error, told, value)
        self.assertIs(tuple, type(told))
        if error[0] is not None:
            self.assertIs(int, type(told[0]))
        # repr tells True from 1 and lists from tuples, == does not at every depth.
        self.assertEqual(repr(kept), repr(value))

    def test_no_pair(self):
        for value in NO_TUPLES + ((), (EXAMPLE[0],), EXAMPLE + ((),), list(EXAMPLE)):
            self.check((None, "board"), value)
        self.check((None, "board"), {0: EXAMPLE[0], 1: EXAMPLE[1]})
        self.check((None, "board"), [[[[[]]]]])

    def test_no_tuple_of_fuses(self):
        for fuses in NO_TUPLES + ((), list(EXAMPLE[0])):
            self.check((None, "fuses"), (fuses, EXAMPLE[1]))

    def test_too_many_fuses(self):
        self.check((None, "fuses"), (chain(21), ()))
        self.check((None, "fuses"), (star(21), ()))
        self.check((None, "fuses"), (((None,),) * 500, ()))

    def test_a_fuse_that_is_no_pair(self):
        for item in NO_PAIRS:
            self.check((0, "fuse"), ((item,), ()))
            self.check((1, "fuse"), ((FIRST, item), ()))
            self.check((2, "fuse"), ((FIRST, (0, 1), item, (0, 1)), ()))

    def test_a_mark_out_of_bounds(self):
        for mark in (-1, 3001, -3000, 10 ** 39, -(10 ** 39)):
            self.check((0, "fuse"), (((-1, mark),), ()))
            self.check((1, "fuse"), ((FIRST, (0, mark)), ()))

    def test_a_mark_that_is_no_integer(self):
        for mark in NO_INTEGERS:
            self.check((0, "fuse"), (((-1, mark),), ()))
            self.check((2, "fuse"), ((FIRST, (0, 4), (1, mark)), ()))

    def test_the_first_fuse_hangs_on_another(self):
        for above in (0, 1, -2, 19, 10 ** 39):
            self.check((0, "fuse"), (((above, 6), (0, 4)), ()))

    def test_a_later_fuse_hangs_on_the_main_line(self):
        self.check((1, "fuse"), ((FIRST, (-1, 6)), ()))
        self.check((2, "fuse"), ((FIRST, (0, 4), (-1, 6)), ()))

    def test_a_fuse_hangs_on_itself_or_on_a_later_one(self):
        for index in range(1, 20):
            for above in (index, index + 1, 19, 20, -2, 10 ** 39):
                if above >= index or above < 0:
                    fuses = chain(20)
                    self.check((index, "fuse"), (fuses[:index] + ((above, 6),) + fuses[index + 1:], ()))

    def test_an_above_that_is_no_integer(self):
        for above in NO_INTEGERS:
            self.check((0, "fuse"), (((above, 6),), ()))
            self.check((1, "fuse"), ((FIRST, (above, 6)), ()))
            self.check((2, "fuse"), ((FIRST, (0, 6), (above, 6)), ()))

    def test_no_tuple_of_lamps(self):
        for lamps in NO_TUPLES + (list(EXAMPLE[1]),):
            self.check((None, "lamps"), (EXAMPLE[0], lamps))

    def test_too_many_lamps(self):
        self.check((None, "lamps"), ((FIRST,), ((0, 1),) * 31))
        self.check((None, "lamps"), ((FIRST,), (None,) * 500))

    def test_a_lamp_that_is_no_pair(self):
        for item in NO_PAIRS:
            self.check((0, "lamp"), (EXAMPLE[0], (item, (0, 1))))
            self.check((2, "lamp"), (EXAMPLE[0], ((0, 1), (1, 1), item)))

    def test_a_draw_out_of_bounds(self):
        for draw in (0, -1, 101, 10 ** 39):
            self.check((0, "lamp"), ((FIRST,), ((0, draw),)))
            self.check((1, "lamp"), ((FIRST,), ((0, 1), (0, draw))))

    def test_a_draw_that_is_no_integer(self):
        for draw in NO_INTEGERS:
            self.check((0, "lamp"), ((FIRST,), ((0, draw),)))
            self.check((29, "lamp"), ((FIRST,), ((0, 1),) * 29 + ((0, draw),)))

    def test_a_lamp_on_no_fuse(self):
        for fuse in (3, 4, -1, 20, 10 ** 39) + NO_INTEGERS:
            self.check((0, "lamp"), (EXAMPLE[0], ((fuse, 1),)))
            self.check((1, "lamp"), (EXAMPLE[0], ((2, 1), (fuse, 1))))
        self.check((0, "lamp"), ((FIRST,), ((1, 1),)))

    def test_the_first_of_several_faults(self):
        bad_fuse, bad_lamp = (7, 7), (0, 0)
        self.check((None, "board"), (None, None, None))
        self.check((None, "fuses"), ((), None))
        self.check((None, "fuses"), ((bad_fuse,) * 21, (bad_lamp,) * 31))
        self.check((0, "fuse"), ((bad_fuse, bad_fuse), None))
        self.check((1, "fuse"), ((FIRST, bad_fuse, (0, 3001)), (bad_lamp,) * 31))
        self.check((1, "fuse"), ((FIRST, bad_fuse), (bad_lamp,)))
        self.check((None, "lamps"), ((FIRST,), (bad_lamp,) * 31))
        self.check((1, "lamp"), ((FIRST,), ((0, 1), bad_lamp, None)))


class TreesTest(unittest.TestCase):
    def check(self, board):
        fuses, lamps = board
        ways = []
        for index, (above, _) in enumerate(fuses):
            ways.append((index,) + (ways[above] if above >= 0 else ()))
        for fuse in range(len(fuses)):
            behind = tuple(other for other in range(len(fuses)) if other != fuse and fuse in ways[other])
            held = tuple(lamp for lamp in range(len(lamps)) if fuse in ways[lamps[lamp][0]])
            for told, found in (
                (way_of(board, fuse), ways[fuse]),
                (fuses_behind(board, fuse), behind),
                (lamps_behind(board, fuse), held),
            ):
                self.assertEqual(found, told, (board, fuse))
                self.assertIs(tuple, type(told))

    def test_the_example(self):
        self.assertEqual((2, 0), way_of(EXAMPLE, 2))
        self.assertEqual((0, 1), lamps_behind(EXAMPLE, 1))
        self.assertEqual((0, 1, 2, 3), lamps_behind(EXAMPLE, 0))
        self.assertEqual((0,), way_of(EXAMPLE, 0))
        self.assertEqual((1, 2), fuses_behind(EXAMPLE, 0))
        self.assertEqual((), fuses_behind(EXAMPLE, 1))
        self.check(EXAMPLE)

    def test_one_fuse(self):
        board = (((-1, 0),), ())
        self.assertEqual((0,), way_of(board, 0))
        self.assertEqual((), fuses_behind(board, 0))
        self.assertEqual((), lamps_behind(board, 0))
        self.assertEqual((0, 1), lamps_behind((((-1, 0),), ((0, 1), (0, 1))), 0))

    def test_a_deep_tree(self):
        board = (chain(20), tuple((19 - lamp % 20, 1) for lamp in range(30)))
        self.assertEqual(tuple(range(19, -1, -1)), way_of(board, 19))
        self.assertEqual(tuple(range(1, 20)), fuses_behind(board, 0))
        self.assertEqual((0, 20), lamps_behind(board, 19))
        self.check(board)

    def test_a_wide_tree(self):
        board = (star(20), tuple((lamp % 20, 1) for lamp in range(30)))
        self.assertEqual((19, 0), way_of(board, 19))
        self.assertEqual(tuple(range(1, 20)), fuses_behind(board, 0))
        self.assertEqual((), fuses_behind(board, 1))
        self.assertEqual((1, 21), lamps_behind(board, 1))
        self.check(board)

    def test_mixed_trees(self):
        for count in range(1, 21):
            for fuses in [shape(count) for shape in SHAPES]:
                self.check((fuses, tuple((lamp * 7 % count, 1) for lamp in range(30))))
                self.check((fuses, ()))

    def test_all_small_trees(self):
        for count in range(1, 7):
            for fuses in all_trees(count):
                self.check((fuses, tuple((lamp % count, 1) for lamp in range(count + 2))))

    def test_passed_by_name(self):
        self.assertEqual((2, 0), way_of(board=EXAMPLE, fuse=2))
        self.assertEqual((1, 2), fuses_behind(board=EXAMPLE, fuse=0))
        self.assertEqual((0, 1), lamps_behind(board=EXAMPLE, fuse=1))


if __name__ == "__main__":
    unittest.main()
