"""Promise [4], and [2] as far as it concerns loads."""

import copy
import unittest

from firstfuse.loads import at_rest, lit, load, loads, strained
from tests import plain
from tests.plain import ALL_ON, EXAMPLE, SHAPES, chain, marked, star


class LoadsTest(unittest.TestCase):
    def check(self, board, on, blown, lamps, carried, hot):
        """All functions of loads are to tell these lamps, loads and strained fuses."""
        kept = copy.deepcopy((board, on, blown))
        for told, expected in (
            (lit(board, on, blown), lamps),
            (loads(board, on, blown), carried),
            (strained(board, on, blown), hot),
        ):
            # repr tells True from 1 and lists from tuples, == does not at every depth.
            self.assertEqual(repr(expected), repr(told), (board, on, blown))
        for fuse, total in enumerate(carried):
            self.assertEqual(repr(total), repr(load(board, on, blown, fuse)), (board, on, blown, fuse))
        self.assertIs(hot == (), at_rest(board, on, blown), (board, on, blown))
        self.assertEqual(repr(kept), repr((board, on, blown)))

    def check_plain(self, board, on, blown):
        self.check(
            board, on, blown,
            plain.lit_lamps(board, on, blown), plain.all_loads(board, on, blown), plain.strained_fuses(board, on, blown),
        )

    def test_the_example(self):
        self.check(EXAMPLE, ALL_ON, (), (0, 1, 2, 3), (10, 5, 4), (0, 1))
        self.check(EXAMPLE, ALL_ON, (1,), (2, 3), (5, 0, 4), ())
        self.check(EXAMPLE, ALL_ON, (2,), (0, 1, 3), (6, 5, 0), (1,))
        self.check(EXAMPLE, ALL_ON, (0,), (), (0, 0, 0), ())
        self.check(EXAMPLE, (0, 2), (), (0, 2), (7, 3, 4), (0,))
        self.check(EXAMPLE, (), (), (), (0, 0, 0), ())

    def test_one_fuse(self):
        for mark in (0, 1, 4, 3000):
            self.check((((-1, mark),), ()), (), (), (), (0,), ())
            self.check((((-1, mark),), ()), (), (0,), (), (0,), ())
            self.check((((-1, mark),), ((0, 5), (0, 7))), (), (), (), (0,), ())
            self.check((((-1, mark),), ((0, 5), (0, 7))), (0, 1), (0,), (), (0,), ())
            self.check((((-1, mark),), ((0, 5), (0, 7))), (1,), (), (1,), (7,), (0,) if mark < 7 else ())

    def test_a_mark_at_the_load_one_below_and_one_above(self):
        for draw in (1, 2, 99, 100):
            self.check((((-1, draw),), ((0, draw),)), (0,), (), (0,), (draw,), ())
            self.check((((-1, draw - 1),), ((0, draw),)), (0,), (), (0,), (draw,), (0,))
            self.check((((-1, draw + 1),), ((0, draw),)), (0,), (), (0,), (draw,), ())
        for mark, hot in ((4, (1,)), (5, ()), (6, ())):
            self.check((((-1, 9), (0, mark)), ((1, 2), (1, 3), (0, 4))), (0, 1, 2), (), (0, 1, 2), (9, 5), hot)

    def test_a_mark_of_0(self):
        board = (((-1, 0), (0, 0), (0, 0)), ((1, 1),))
        self.check(board, (), (), (), (0, 0, 0), ())
        self.check(board, (0,), (), (0,), (1, 1, 0), (0, 1))
        self.check(board, (0,), (1,), (), (0, 0, 0), ())
        self.check(board, (0,), (2,), (0,), (1, 1, 0), (0, 1))

    def test_the_greatest_load(self):
        board = (marked(chain(20), [3000] * 19 + [2999]), ((19, 100),) * 30)
        every = tuple(range(30))
        self.check(board, every, (), every, (3000,) * 20, (19,))
        self.check(board, every[1:], (), every[1:], (2900,) * 20, ())

    def test_a_row(self):
        board = (marked(chain(20), range(20)), tuple((fuse, 1) for fuse in range(20)))
        every = tuple(range(20))
        self.check(board, every, (), every, tuple(range(20, 0, -1)), tuple(range(10)))
        self.check(board, every, (12,), every[:12], tuple(range(12, 0, -1)) + (0,) * 8, tuple(range(6)))
        self.check(board, every, (1, 12, 19), (0,), (1,) + (0,) * 19, (0,))
        self.check(board, every, (0,), (), (0,) * 20, ())
        self.check(board, every, every, (), (0,) * 20, ())

    def test_side_by_side(self):
        board = (star(20), tuple((fuse, fuse) for fuse in range(1, 20)))
        every = tuple(range(19))
        self.check(board, every, (), every, (190,) + tuple(range(1, 20)), (0,) + tuple(range(10, 20)))
        self.check(board, every, tuple(range(4, 20)), (0, 1, 2), (6, 1, 2, 3) + (0,) * 16, ())

    def test_blown_fuses_above_others_that_are_blown(self):
        board = (((-1, 9), (0, 2), (1, 2), (1, 2), (0, 2)), ((2, 3), (3, 4), (1, 5), (4, 6), (0, 7)))
        every = (0, 1, 2, 3, 4)
        self.check(board, every, (), every, (25, 12, 3, 4, 6), (0, 1, 2, 3, 4))
        self.check(board, every, (2,), (1, 2, 3, 4), (22, 9, 0, 4, 6), (0, 1, 3, 4))
        self.check(board, every, (1, 2), (3, 4), (13, 0, 0, 0, 6), (0, 4))
        self.check(board, every, (1,), (3, 4), (13, 0, 0, 0, 6), (0, 4))
        self.check(board, every, (1, 2, 3, 4), (4,), (7, 0, 0, 0, 0), ())
        self.check(board, every, (0, 3), (), (0, 0, 0, 0, 0), ())

    def test_fuses_blown_that_could_not_blow(self):
        board = (((-1, 3000), (0, 3000), (0, 1)), ((1, 5), (2, 2)))
        self.check(board, (0, 1), (), (0, 1), (7, 5, 2), (2,))
        self.check(board, (0, 1), (1,), (1,), (2, 0, 2), (2,))
        self.check(board, (0, 1), (0,), (), (0, 0, 0), ())
        self.check(board, (), (0, 1, 2), (), (0, 0, 0), ())

    def test_no_lamps(self):
        for shape in SHAPES:
            for count in (1, 2, 7, 20):
                for blown in ((), (0,), tuple(range(count))):
                    self.check((marked(shape(count), [0] * count), ()), (), blown, (), (0,) * count, ())

    def test_all_sets_of_blown_fuses(self):
        for board, on in plain.some_boards(4, 120, 6):
            for blown in plain.subsets(range(len(board[0]))):
                self.check_plain(board, on, blown)
            self.check_plain(board, (), (0,))

    def test_large_boards(self):
        for shape in SHAPES:
            for step in (1, 3, 7, 11):
                fuses = marked(shape(20), [fuse * 37 * step % 500 for fuse in range(20)])
                board = (fuses, tuple((lamp * step % 20, lamp * 3 + 1) for lamp in range(30)))
                for on in ((), tuple(range(0, 30, 2)), tuple(range(30))):
                    for blown in ((), (19,), (3, 8, 12), tuple(range(10, 20)), (1, 2)):
                        self.check_plain(board, on, blown)

    def test_passed_by_name(self):
        self.assertEqual((2, 3), lit(board=EXAMPLE, on=ALL_ON, blown=(1,)))
        self.assertEqual(4, load(board=EXAMPLE, on=ALL_ON, blown=(1,), fuse=2))
        self.assertEqual((10, 5, 4), loads(board=EXAMPLE, on=ALL_ON, blown=()))
        self.assertEqual((0, 1), strained(board=EXAMPLE, on=ALL_ON, blown=()))
        self.assertIs(True, at_rest(board=EXAMPLE, on=ALL_ON, blown=(1,)))


if __name__ == "__main__":
    unittest.main()
