"""Promise [7], guarantees (b) and (c) of [1], and [2] as far as they concern fates."""

import itertools
import random
import unittest

from firstfuse.ends import is_end
from firstfuse.fates import brightest, darkest, fate, fates, least_beside, shown
from tests import plain
from tests.plain import ALL_ON, EXAMPLE, chain, marked, star


def told_pairs(on, source):
    """Pairs of lamps to be lit and lamps to be dark: all there are, or many of them."""
    if len(on) <= 4:
        words = itertools.product("-ld", repeat=len(on))
    else:
        words = [source.choices("-ld", (source.randint(1, 9), 2, 1), k=len(on)) for _ in range(60)]
    for word in words:
        yield tuple(tuple(lamp for lamp, told in zip(on, word) if told == letter) for letter in "ld")


class FatesTest(unittest.TestCase):
    def check_shown(self, board, on, lit_sets, bright, dark):
        """shown is to find an end just if one of those with these sets of lit lamps will do; whether it does."""
        where = (board, on, bright, dark)
        fits = any(set(bright) <= lamps and not set(dark) & lamps for lamps in lit_sets)
        told = shown(board, on, bright, dark)
        self.assertIs(fits, told is not None, where)
        if told is not None:
            self.assertIs(tuple, type(told), where)
            self.assertIs(True, is_end(board, on, told), where)
            self.assertIn(told, plain.all_ends(board, on), where)
            lamps = set(plain.lit_lamps(board, on, told))
            self.assertTrue(set(bright) <= lamps and not set(dark) & lamps, where)
        self.assertEqual(told, shown(board, on, bright, dark))
        return fits

    def check(self, board, on, source):
        """All functions of fates, against the search."""
        where = (board, on)
        ends = plain.all_ends(board, on)
        lit_sets = [set(plain.lit_lamps(board, on, blown)) for blown in ends]
        answers = {self.check_shown(board, on, lit_sets, bright, dark) for bright, dark in told_pairs(on, source)}
        words = {(True, False): "lit", (False, True): "dark", (True, True): "open"}
        expected = tuple(
            words[any(lamp in lamps for lamps in lit_sets), any(lamp not in lamps for lamps in lit_sets)] for lamp in on
        )
        self.assertEqual(expected, fates(board, on), where)
        self.assertIs(tuple, type(fates(board, on)))
        self.assertEqual(expected, tuple(fate(board, on, lamp) for lamp in on), where)
        for told, size in (
            (brightest(board, on), max(len(lamps) for lamps in lit_sets)),
            (darkest(board, on), min(len(lamps) for lamps in lit_sets)),
        ):
            self.assertIn(told, ends, where)
            self.assertEqual(size, len(plain.lit_lamps(board, on, told)), where)
        self.check_beside(board, on)
        return answers

    def check_beside(self, board, on):
        coming = plain.all_coming(board, on)
        for fuse in range(len(board[0])):
            behind = [other for other in range(len(board[0])) if other != fuse and fuse in plain.way(board, other)]
            least = min(carried[fuse] for blown, carried in coming.items() if set(blown) <= set(behind))
            self.assertEqual(repr(least), repr(least_beside(board, on, fuse)), (board, on, fuse))

    def test_the_example(self):
        # The ends are (0,), all dark, and (1,), lamps 2 and 3 lit.
        self.assertEqual((1,), shown(EXAMPLE, ALL_ON, (2,), ()))
        self.assertEqual((1,), shown(EXAMPLE, ALL_ON, (2, 3), (0, 1)))
        self.assertEqual((0,), shown(EXAMPLE, ALL_ON, (), (2,)))
        self.assertIn(shown(EXAMPLE, ALL_ON, (), ()), ((0,), (1,)))
        self.assertIsNone(shown(EXAMPLE, ALL_ON, (0,), ()))
        self.assertIsNone(shown(EXAMPLE, ALL_ON, (2,), (3,)))
        self.assertEqual(("dark", "dark", "open", "open"), fates(EXAMPLE, ALL_ON))
        self.assertEqual("dark", fate(EXAMPLE, ALL_ON, 1))
        self.assertEqual("open", fate(EXAMPLE, ALL_ON, 3))
        self.assertEqual((1,), brightest(EXAMPLE, ALL_ON))
        self.assertEqual((0,), darkest(EXAMPLE, ALL_ON))
        self.assertEqual([5, 5, 4], [least_beside(EXAMPLE, ALL_ON, fuse) for fuse in (0, 1, 2)])
        self.check(EXAMPLE, ALL_ON, random.Random(7))

    def test_at_rest_from_the_first(self):
        self.assertEqual(("lit", "lit"), fates(EXAMPLE, (0, 3)))
        self.assertEqual((), fates(EXAMPLE, ()))
        for on in ((), (2,), (2, 3)):
            self.assertEqual(((), ()), (brightest(EXAMPLE, on), darkest(EXAMPLE, on)))
            self.assertEqual((), shown(EXAMPLE, on, on, ()))
            self.assertEqual((), shown(EXAMPLE, on, (), ()))
            for lamp in on:
                self.assertIsNone(shown(EXAMPLE, on, (), (lamp,)))
                self.assertEqual("lit", fate(EXAMPLE, on, lamp))

    def test_one_fuse(self):
        for mark, end, word in ((3, (0,), "dark"), (4, (), "lit"), (5, (), "lit"), (0, (0,), "dark")):
            board = (((-1, mark),), ((0, 4), (0, 9)))
            self.assertEqual((word,), fates(board, (0,)))
            self.assertEqual((end, end), (brightest(board, (0,)), darkest(board, (0,))))
            self.assertEqual(4, least_beside(board, (0,), 0))
            self.check(board, (0,), random.Random(7))
            self.check(board, (0, 1), random.Random(7))

    def test_two_of_which_one_stays(self):
        # Fuse 0 blows, or fuse 1 or fuse 2 does, and then it is relieved.
        board = (((-1, 3000), (0, 5), (1, 2), (1, 2)), ((2, 3), (3, 3), (0, 1)))
        on = (0, 1, 2)
        self.assertEqual(("dark", "dark", "lit"), fates(board, on))
        board = (((-1, 3000), (0, 5), (1, 2), (1, 3)), board[1])
        self.assertEqual(("dark", "open", "lit"), fates(board, on))
        self.assertEqual((2,), shown(board, on, (1,), ()))
        self.assertEqual((1,), shown(board, on, (2,), (1,)))
        self.assertIsNone(shown(board, on, (0,), ()))
        self.assertIsNone(shown(board, on, (0, 1), ()))
        self.assertEqual(((2,), (1,)), (brightest(board, on), darkest(board, on)))

    def test_the_brightest_counts_lamps(self):
        # Behind fuse 1 a lamp that draws 10 may stay, behind fuse 3 three that draw 1: not both, if fuse 0 bears 12.
        lamps = ((1, 10), (2, 1), (3, 1), (3, 1), (3, 1), (4, 1))
        on = (0, 1, 2, 3, 4, 5)
        board = (((-1, 12), (0, 10), (1, 0), (0, 3), (3, 0)), lamps)
        self.assertEqual((1, 4), brightest(board, on))
        self.assertEqual((0,), darkest(board, on))
        self.assertEqual((2, 3), shown(board, on, (0,), ()))
        self.assertIsNone(shown(board, on, (0, 2), ()))
        board = (((-1, 13),) + board[0][1:], lamps)
        self.assertEqual((2, 4), brightest(board, on))
        self.assertEqual((2, 4), shown(board, on, (0, 2), ()))

    def test_the_brightest_counts_no_fuses(self):
        # As above, but with the one lamp more fuses stay whole, and then again more of them blow side by side.
        fuses = ((-1, 12), (0, 10), (1, 0), (0, 3), (3, 0), (1, 0), (1, 0), (1, 0))
        lamps = ((1, 10), (2, 1), (3, 1), (3, 1), (3, 1), (4, 1))
        on = (0, 1, 2, 3, 4, 5)
        self.assertEqual((1, 4), brightest((fuses, lamps), on))
        self.assertEqual((1, 4), brightest((fuses, lamps + ((5, 1), (6, 1), (7, 1))), on + (6, 7, 8)))

    def test_a_fuse_whose_row_above_would_blow(self):
        board = (marked(chain(4), (0, 1, 2, 1)), ((0, 1), (1, 1), (2, 1), (3, 2)))
        self.assertEqual([1, 1, 1, 2], [least_beside(board, ALL_ON, fuse) for fuse in range(4)])
        board = (marked(chain(4), (0, 1, 3, 2)), board[1])
        self.assertEqual([1, 4, 3, 2], [least_beside(board, ALL_ON, fuse) for fuse in range(4)])
        self.check_beside(board, ALL_ON)

    def test_the_least_load_beside_is_not_that_of_an_end(self):
        # Fuse 0 is to be whole, whatever it carries.
        board = (((-1, 1), (0, 3)), ((0, 2), (1, 4)))
        self.assertEqual(2, least_beside(board, (0, 1), 0))
        self.assertEqual(6, least_beside((((-1, 1), (0, 4)), board[1]), (0, 1), 0))
        self.assertEqual(0, least_beside(board, (), 0))

    def test_small_boards(self):
        source = random.Random(71)
        answers = set()
        for board, on in plain.some_boards(7, 160, 7):
            answers |= self.check(board, on, source)
        self.assertEqual({True, False}, answers)

    def test_boards_of_seven_fuses(self):
        source = random.Random(72)
        words = set()
        for _ in range(50):
            board, on = plain.some_board(source, 7, source.randint(3, 10))
            self.check(board, on, source)
            words.update(fates(board, on))
        self.assertEqual({"lit", "dark", "open"}, words)

    def test_the_brightest_of_boards_of_seven_fuses(self):
        source = random.Random(73)
        for _ in range(150):
            board, on = plain.some_board(source, 7, source.randint(5, 12))
            numbers = [len(plain.lit_lamps(board, on, blown)) for blown in plain.all_ends(board, on)]
            for told, number in ((brightest(board, on), max(numbers)), (darkest(board, on), min(numbers))):
                self.assertIs(True, is_end(board, on, told), (board, on))
                self.assertEqual(number, len(plain.lit_lamps(board, on, told)), (board, on))

    def test_side_by_side(self):
        for count in range(1, 20):
            lamps = tuple((fuse, 1) for fuse in range(1, count + 1))
            on = tuple(range(count))
            board = (marked(star(count + 1), [count - 1] + [0] * count), lamps)
            self.assertEqual(("dark",) * count, fates(board, on))
            self.assertEqual(tuple(range(1, count + 1)), brightest((((-1, 3000),) + board[0][1:], lamps), on))
            board = (marked(star(count + 1), [3000] + [0, 9] * count)[:count + 1], lamps)
            self.assertEqual(("dark", "lit") * (count // 2) + ("dark",) * (count % 2), fates(board, on))

    def test_passed_by_name(self):
        self.assertEqual((1,), shown(board=EXAMPLE, on=ALL_ON, bright=(2,), dark=(0,)))
        self.assertEqual("open", fate(board=EXAMPLE, on=ALL_ON, lamp=2))
        self.assertEqual(("dark", "dark", "open", "open"), fates(board=EXAMPLE, on=ALL_ON))
        self.assertEqual((1,), brightest(board=EXAMPLE, on=ALL_ON))
        self.assertEqual((0,), darkest(board=EXAMPLE, on=ALL_ON))
        self.assertEqual(5, least_beside(board=EXAMPLE, on=ALL_ON, fuse=0))


if __name__ == "__main__":
    unittest.main()
