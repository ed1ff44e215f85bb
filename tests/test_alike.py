"""Promise [12], and [2] as far as it concerns alike."""

import copy
import random
import time
import unittest

from firstfuse.alike import outcomes, parting, spare
from firstfuse.errors import TooGreat, Unlike
from tests import plain
from tests.plain import ALL_ON, EXAMPLE, GREAT_BOARDS, SHAPES, chain, marked, star

SECONDS = 5


def plain_outcomes(board, on):
    return tuple(sorted({plain.lit_lamps(board, on, blown) for blown in plain.all_ends(board, on)}))


def plain_parting(board, other):
    for on in plain.subsets(range(len(board[1]))):
        if plain_outcomes(board, on) != plain_outcomes(other, on):
            return on
    return None


def bridged(board, fuse):
    return (marked(board[0], [3000 if at == fuse else mark for at, (_, mark) in enumerate(board[0])]), board[1])


class AlikeTest(unittest.TestCase):
    def check_outcomes(self, board):
        for on in plain.subsets(range(len(board[1]))):
            self.assertEqual(repr(plain_outcomes(board, on)), repr(outcomes(board, on)), (board, on))

    def check_parting(self, board, other):
        told = parting(board, other)
        self.assertEqual(repr(plain_parting(board, other)), repr(told), (board, other))
        self.assertEqual(told, parting(other, board))
        return told

    def check_spare(self, board):
        told = tuple(f for f in range(len(board[0])) if plain_parting(board, bridged(board, f)) is None)
        self.assertEqual(repr(told), repr(spare(board)), board)
        return told

    def test_the_example(self):
        self.assertEqual(((), (2, 3)), outcomes(EXAMPLE, ALL_ON))
        self.assertEqual(((2, 3),), outcomes(EXAMPLE, (2, 3)))
        self.assertEqual(((),), outcomes(EXAMPLE, (0, 2)))
        self.assertEqual(((),), outcomes(EXAMPLE, ()))
        # Fuse 2 never blows; of the others each one has its lamps.
        self.assertEqual((2,), spare(EXAMPLE))
        self.assertEqual((0, 2), parting(EXAMPLE, bridged(EXAMPLE, 0)))
        self.assertEqual((0, 1), parting(EXAMPLE, bridged(EXAMPLE, 1)))
        self.assertIsNone(parting(EXAMPLE, bridged(EXAMPLE, 2)))
        self.check_outcomes(EXAMPLE)

    def test_ascending_outcomes(self):
        # Python's order of tuples: (0, 1) stands ahead of (0, 1, 2), and this ahead of (0, 2).
        board = (marked(star(4), (2, 9, 9, 9)), ((1, 1), (2, 1), (3, 1)))
        self.assertEqual(((),), outcomes(board, (0, 1, 2)))
        board = (((-1, 3), (0, 1), (1, 0), (0, 1), (3, 0)), ((2, 1), (1, 1), (4, 1), (3, 1)))
        self.assertEqual(((), (1,), (1, 3), (3,)), outcomes(board, (0, 1, 2, 3)))
        self.check_outcomes(board)

    def test_several_ends_with_the_same_lamps(self):
        # Any one of the three fuses of a row may blow: the lamp is dark in each of the three ends.
        board = (marked(chain(3), (0, 0, 0)), ((2, 1),))
        self.assertEqual(((),), outcomes(board, (0,)))

    def test_boards_alike_with_other_fuses(self):
        row = (marked(chain(3), (0, 0, 0)), ((2, 1),))
        self.assertIsNone(parting(row, (((-1, 0),), ((0, 9),))))
        self.assertEqual((0,), parting(row, (((-1, 1),), ((0, 1),))))
        self.assertEqual((0, 1, 2), spare(row))
        self.assertIsNone(parting((chain(6), ()), (((-1, 0),), ())))
        self.assertIsNone(parting(EXAMPLE, EXAMPLE))

    def test_the_shortest_and_of_these_the_first(self):
        # The boards are told apart just by those sets of lamps that draw 10.
        for draws, told in (
            ((4, 6, 7, 3), (0, 1)),
            ((7, 4, 6, 3), (0, 3)),
            ((7, 2, 1, 3), (0, 3)),
            ((5, 3, 2, 9), (0, 1, 2)),
            ((3, 2, 5, 5), (2, 3)),
            ((1, 2, 10, 10), (2,)),
            ((1, 2, 3, 4), (0, 1, 2, 3)),
            ((1, 2, 3, 5), (1, 2, 3)),
            ((1, 2, 4, 20), None),
        ):
            lamps = tuple((0, draw) for draw in draws)
            self.assertEqual(told, parting((((-1, 9),), lamps), (((-1, 10),), lamps)), draws)
            self.assertEqual(told, parting((((-1, 10),), lamps), (((-1, 9),), lamps)), draws)

    def test_drawn_boards(self):
        for board, _ in plain.small_boards(120, 120):
            self.check_outcomes(board)

    def test_drawn_pairs(self):
        source = random.Random(121)
        found = {}
        for _ in range(250):
            count = source.randint(0, 5)
            board, _ = plain.some_board(source, source.randint(1, 4), count)
            other, _ = plain.some_board(source, source.randint(1, 4), count)
            if source.random() < 0.6:
                # Often the boards differ in one mark only.
                at = source.randrange(len(board[0]))
                marks = [max(0, mark + (fuse == at) * source.choice((-1, 1))) for fuse, (_, mark) in enumerate(board[0])]
                other = (marked(board[0], marks), board[1])
            told = self.check_parting(board, other)
            key = None if told is None else len(told)
            found[key] = found.get(key, 0) + 1
        self.assertTrue({None, 1, 2, 3} <= set(found), found)

    def test_drawn_spares(self):
        source = random.Random(122)
        found = []
        for _ in range(120):
            board, _ = plain.some_board(source, source.randint(1, 5), source.randint(1, 5))
            found.append(len(self.check_spare(board)) / len(board[0]))
        self.assertTrue({0, 1} < set(found))

    def test_great_boards(self):
        for great in GREAT_BOARDS:
            self.assertRaises(TooGreat, outcomes, great, ())
            self.assertRaises(TooGreat, spare, great)
            # TooGreat() of either one stands ahead of Unlike().
            for small in (EXAMPLE, (chain(1), ()), (chain(6), ((0, 1),) * 6)):
                self.assertRaises(TooGreat, parting, great, small)
                self.assertRaises(TooGreat, parting, small, great)
            self.assertRaises(TooGreat, parting, great, great)
        self.assertRaises(TooGreat, outcomes, GREAT_BOARDS[0], None)

    def test_unlike_boards(self):
        for count in range(7):
            for other in range(7):
                boards = (chain(2), ((1, 1),) * count), (star(3), ((0, 1),) * other)
                if count == other:
                    self.assertIsNone(parting(*boards))
                else:
                    self.assertRaises(Unlike, parting, *boards)
        # As many lamps are enough; as many fuses are not needed.
        self.assertIsNone(parting((chain(1), ((0, 1),)), (chain(6), ((0, 1),))))

    def test_the_greatest_small_boards(self):
        for shape in SHAPES:
            for mark in (0, 1, 2, 600):
                board = (marked(shape(6), [mark] * 6), tuple((fuse, 1) for fuse in range(6)))
                begun = time.process_time()
                told = spare(board)
                self.assertLess(time.process_time() - begun, SECONDS)
                self.assertEqual(tuple(f for f in range(6) if plain_parting(board, bridged(board, f)) is None), told)

    def test_passed_by_name_and_left_as_it_was(self):
        other = bridged(EXAMPLE, 1)
        kept = copy.deepcopy((EXAMPLE, other))
        self.assertEqual(((), (2, 3)), outcomes(board=EXAMPLE, on=ALL_ON))
        self.assertEqual((0, 1), parting(board=EXAMPLE, other=other))
        self.assertEqual((2,), spare(board=EXAMPLE))
        self.assertEqual(repr(kept), repr((EXAMPLE, other)))


if __name__ == "__main__":
    unittest.main()
