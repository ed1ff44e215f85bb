"""Promise [10], and [2] as far as it concerns speeds."""

import copy
import itertools
import random
import unittest

from firstfuse.coming import can_come
from firstfuse.ends import is_end
from firstfuse.errors import TooGreat
from firstfuse.speeds import come_by, ends_by, is_guarded, is_order_by, order_by, speeds_error, unguarded
from tests import plain
from tests.plain import ALL_ON, EXAMPLE, GREAT_BOARDS, NO_FUSES, chain, marked, star

SIX = (chain(6), ())

NO_PAIRS = (
    None, True, False, 0, 1, 10 ** 39, "", "01", "(0, 1)", (), (0,), (0, 1, 2), (0, 1, 0), [], [0, 1], {}, {0: 1},
    (0, 0), (5, 5), (0, 6), (6, 0), (-1, 0), (0, -1), (0, 20), (10 ** 39, 0), (0, -(10 ** 39)), (True, 0), (0, True),
    (False, 1), (1, False), (True, False), (None, 0), (0, None), ("0", 1), (0, "1"), ("0", "1"), ((0,), (1,)),
    ((0, 1),), ((0, 1), (1, 2)), ([0], [1]), (0, [1]), ([], {}), ({}, 0), (0, 1, None), tuple(range(2000)),
)
NO_TUPLES = (None, True, 0, 10 ** 39, "", "((0, 1),)", [], [(0, 1)], [[0, 1]], {}, {0: 1}, {(0, 1): 0})


class SpeedsErrorTest(unittest.TestCase):
    def test_speeds(self):
        for value in (
            (), ((0, 1),), ((5, 0),), ((0, 1), (0, 2)), ((0, 1), (1, 2)), ((0, 1), (0, 2), (1, 2)),
            ((1, 0), (2, 1), (3, 2), (4, 3), (5, 4)), tuple(itertools.combinations(range(6), 2)),
            ((0, 3), (1, 3), (2, 3), (3, 4), (3, 5)), ((0, 2), (0, 3), (1, 2), (1, 3)),
        ):
            self.assertIsNone(speeds_error(SIX, value), value)
        self.assertIsNone(speeds_error((chain(1), ()), ()))
        self.assertIsNone(speeds_error(EXAMPLE, ((1, 0), (2, 0))))

    def test_no_tuple(self):
        for value in NO_TUPLES:
            kept = copy.deepcopy(value)
            self.assertEqual((None, "speeds"), speeds_error(SIX, value), value)
            self.assertEqual(repr(kept), repr(value))

    def test_no_pair(self):
        for item in NO_PAIRS:
            kept = copy.deepcopy(item)
            self.assertEqual((0, "pair"), speeds_error(SIX, (item,)), item)
            self.assertEqual((0, "pair"), speeds_error(SIX, (item, item)), item)
            self.assertEqual((1, "pair"), speeds_error(SIX, ((0, 1), item)), item)
            self.assertEqual((1, "pair"), speeds_error(SIX, ((0, 1), item, (4, 5), None)), item)
            self.assertEqual(repr(kept), repr(item))
        self.assertEqual((1999, "pair"), speeds_error(SIX, ((0, 1),) * 1999 + (0,)))

    def test_fuses_are_those_of_the_board(self):
        for count in range(1, 7):
            board = (chain(count), ())
            for quick, slow in itertools.product(range(-1, 7), repeat=2):
                told = None if quick != slow and 0 <= quick < count and 0 <= slow < count else (0, "pair")
                self.assertEqual(told, speeds_error(board, ((quick, slow),)))

    def test_order(self):
        for value, told in (
            (((0, 1), (0, 1)), 1),
            (((0, 2), (0, 1)), 1),
            (((1, 2), (0, 1)), 1),
            (((1, 0), (0, 2)), 1),
            (((0, 1), (1, 2), (1, 2)), 2),
            (((0, 1), (2, 3), (1, 2), (0, 1)), 2),
            (((0, 1),) * 2000, 1),
        ):
            self.assertEqual((told, "order"), speeds_error(SIX, value), value)

    def test_all_pairs_ahead_of_any_order(self):
        self.assertEqual((2, "pair"), speeds_error(SIX, ((0, 1), (0, 1), (0, 0))))
        self.assertEqual((3, "pair"), speeds_error(SIX, ((3, 4), (1, 2), (0, 1), [0, 1])))
        self.assertEqual((2, "pair"), speeds_error(SIX, ((0, 1), (1, 0), None)))

    def test_order_ahead_of_a_ring(self):
        self.assertEqual((1, "order"), speeds_error(SIX, ((1, 0), (0, 1))))
        self.assertEqual((2, "order"), speeds_error(SIX, ((0, 1), (1, 0), (1, 0))))

    def test_rings(self):
        for value in (
            ((0, 1), (1, 0)),
            ((0, 1), (1, 2), (2, 0)),
            ((0, 5), (1, 0), (2, 1), (3, 2), (4, 3), (5, 4)),
            ((0, 1), (1, 2), (2, 1)),
            ((2, 4), (3, 2), (4, 3), (5, 0)),
            tuple(itertools.permutations(range(6), 2)),
        ):
            self.assertEqual((None, "ring"), speeds_error(SIX, value), value)

    def test_all_speeds_of_three_fuses(self):
        board = (chain(3), ())
        pairs = list(itertools.permutations(range(3), 2))
        for value in plain.subsets(pairs):
            rows = itertools.permutations(range(3))
            # There is no ring just if the fuses can be put in a row with each quick one ahead.
            told = None if any(all(r.index(q) < r.index(s) for q, s in value) for r in rows) else (None, "ring")
            self.assertEqual(told, speeds_error(board, value), value)

    def test_drawn_speeds_of_six_fuses(self):
        source = random.Random(100)
        pairs = list(itertools.permutations(range(6), 2))
        counts = {True: 0, False: 0}
        for _ in range(500):
            value = tuple(sorted(source.sample(pairs, source.randint(2, 8))))
            rows = itertools.permutations(range(6))
            fits = any(all(r.index(q) < r.index(s) for q, s in value) for r in rows)
            counts[fits] += 1
            self.assertEqual(None if fits else (None, "ring"), speeds_error(SIX, value), value)
        self.assertGreater(min(counts.values()), 100)

    def test_great_boards_ahead_of_all_else(self):
        for board in GREAT_BOARDS:
            for value in NO_TUPLES + ((), (None,), ((0, 1),), ((0, 1), (0, 1)), ((0, 1), (1, 0))):
                self.assertRaises(TooGreat, speeds_error, board, value)


class SpeedsTest(unittest.TestCase):
    def check_sets(self, board, on, speeds):
        """come_by, ends_by and order_by against all orders; returns how many sets can come."""
        where = (board, on, speeds)
        self.assertIsNone(speeds_error(board, speeds), where)
        orders = plain.all_orders_by(board, on, speeds)
        sets = sorted({tuple(sorted(order)) for order in orders})
        self.assertEqual(repr(tuple(sets)), repr(come_by(board, on, speeds)), where)
        ends = tuple(blown for blown in sets if not plain.strained_fuses(board, on, blown))
        self.assertEqual(repr(ends), repr(ends_by(board, on, speeds)), where)
        for blown in plain.subsets(range(len(board[0]))):
            told = order_by(board, on, speeds, blown)
            self.assertIs(blown in sets, told is not None, (where, blown))
            if told is not None:
                self.assertIs(tuple, type(told))
                self.assertEqual(blown, tuple(sorted(told)), where)
                self.assertIn(told, orders, where)
                self.assertIs(True, is_order_by(board, on, speeds, told), where)
            self.assertEqual(told, order_by(board, on, speeds, blown))
        return len(sets)

    def check_orders(self, board, on, speeds):
        orders = set(plain.all_orders_by(board, on, speeds))
        for length in range(len(board[0]) + 1):
            for row in itertools.permutations(range(len(board[0])), length):
                self.assertIs(row in orders, is_order_by(board, on, speeds, row), (board, on, speeds, row))

    def check_guarded(self, board, speeds):
        found = any(
            behind != order[-1] and order[-1] in plain.way(board, behind)
            for on in plain.subsets(range(len(board[1])))
            for order in plain.all_orders_by(board, on, speeds) if order
            for behind in plain.strained_fuses(board, on, order[:-1])
        )
        self.assertIs(not found, is_guarded(board, speeds), (board, speeds))
        told = unguarded(board, speeds)
        self.assertIs(found, told is not None, (board, speeds))
        if told is not None:
            self.check_unguarded(board, speeds, told)
        self.assertEqual(told, unguarded(board, speeds))
        return found

    def check_unguarded(self, board, speeds, told):
        self.assertTrue(isinstance(told, tuple) and len(told) == 2, told)
        on, order = told
        self.assertIn(on, list(plain.subsets(range(len(board[1])))))
        self.assertIn(order, plain.all_orders_by(board, on, speeds))
        self.assertIs(True, is_order_by(board, on, speeds, order))
        hot = plain.strained_fuses(board, on, order[:-1])
        self.assertTrue(any(fuse != order[-1] and order[-1] in plain.way(board, fuse) for fuse in hot), told)

    def test_the_example(self):
        self.assertEqual(((), (0,), (1,)), come_by(EXAMPLE, ALL_ON, ()))
        self.assertEqual(((0,), (1,)), ends_by(EXAMPLE, ALL_ON, ()))
        self.assertEqual(((), (1,)), come_by(EXAMPLE, ALL_ON, ((1, 0),)))
        self.assertEqual(((1,),), ends_by(EXAMPLE, ALL_ON, ((1, 0),)))
        self.assertEqual(((), (0,)), come_by(EXAMPLE, ALL_ON, ((0, 1),)))
        self.assertEqual(((0,),), ends_by(EXAMPLE, ALL_ON, ((0, 1),)))
        # Fuse 2 is not strained, but a row of pairs leads by it.
        self.assertEqual(((), (1,)), come_by(EXAMPLE, ALL_ON, ((1, 2), (2, 0))))
        self.assertEqual(((), (0,), (1,)), come_by(EXAMPLE, ALL_ON, ((0, 2), (1, 2))))
        self.assertIs(False, is_guarded(EXAMPLE, ()))
        self.assertIs(True, is_guarded(EXAMPLE, ((1, 0),)))
        self.assertIsNone(unguarded(EXAMPLE, ((1, 0),)))
        self.assertIs(True, is_guarded(EXAMPLE, ((1, 2), (2, 0))))
        self.assertIs(False, is_guarded(EXAMPLE, ((0, 1),)))
        self.check_unguarded(EXAMPLE, (), unguarded(EXAMPLE, ()))
        for speeds in ((), ((1, 0),), ((0, 1),), ((2, 0),), ((1, 2), (2, 0)), ((0, 2), (1, 2))):
            self.check_sets(EXAMPLE, ALL_ON, speeds)
            self.check_orders(EXAMPLE, ALL_ON, speeds)
            self.check_guarded(EXAMPLE, speeds)

    def test_nothing_strained(self):
        for on in ((), (3,), (2, 3)):
            for speeds in ((), ((0, 1),)):
                self.assertEqual(((),), come_by(EXAMPLE, on, speeds))
                self.assertEqual(((),), ends_by(EXAMPLE, on, speeds))
                self.assertEqual((), order_by(EXAMPLE, on, speeds, ()))
                self.assertIsNone(order_by(EXAMPLE, on, speeds, (0,)))
                self.assertIs(True, is_order_by(EXAMPLE, on, speeds, ()))
        self.assertIs(True, is_guarded((chain(6), ()), ()))
        self.assertIs(True, is_guarded((((-1, 0),), ((0, 1),)), ()))

    def test_a_quicker_fuse_has_to_be_strained(self):
        # Fuses 1 and 2 are strained side by side, fuse 3 is not: that it is quicker is of no weight.
        board = (marked(star(4), (9, 0, 0, 0)), ((1, 1), (2, 1)))
        on = (0, 1)
        self.assertEqual(((), (1,), (1, 2), (2,)), come_by(board, on, ((3, 1), (3, 2))))
        self.assertEqual(((), (1, 2), (2,)), come_by(board, on, ((2, 1),)))
        self.assertEqual(((1, 2),), ends_by(board, on, ((2, 1),)))
        self.assertEqual((2, 1), order_by(board, on, ((2, 1),), (1, 2)))
        self.assertIsNone(order_by(board, on, ((2, 1),), (1,)))
        self.assertIs(False, is_order_by(board, on, ((2, 1),), (1, 2)))
        self.assertIs(True, is_order_by(board, on, (), (1, 2)))
        # Behind fuse 2, which has blown, fuse 1 may.
        self.assertIs(True, is_order_by(board, on, ((2, 1),), (2, 1)))
        self.assertIs(True, is_order_by(board, on, ((2, 3), (3, 1)), (2, 1)))
        self.assertIs(False, is_order_by(board, on, ((2, 3), (3, 1)), (1, 2)))

    def test_the_least_lamps_are_not_enough(self):
        # Alone each lamp strains one fuse only; with both on fuse 0 blows while fuse 1 is strained.
        board = (((-1, 4), (0, 2)), ((1, 3), (0, 2)))
        self.assertEqual(((0, 1), (0,)), unguarded(board, ()))
        self.assertIs(True, is_guarded(board, ((1, 0),)))
        self.assertIs(False, is_guarded(board, ((0, 1),)))
        self.assertIs(True, is_guarded((board[0], board[1][:1]), ()))

    def test_unguarded_behind_others_that_have_blown(self):
        # At first fuse 3, the quickest, holds fuse 0 back; once it has blown fuse 0 may blow ahead of fuse 1.
        board = (marked(star(4), (0, 0, 9, 0)), ((1, 1), (3, 1)))
        speeds = ((3, 0), (3, 1))
        on, order = unguarded(board, speeds)
        self.check_unguarded(board, speeds, (on, order))
        self.assertIs(True, is_guarded(board, ((1, 0), (3, 0))))
        self.check_guarded(board, speeds)

    def test_without_speeds(self):
        for board, on in plain.small_boards(101, 150):
            sets = list(plain.subsets(range(len(board[0]))))
            come = tuple(sorted(blown for blown in sets if can_come(board, on, blown)))
            self.assertEqual(come, come_by(board, on, ()))
            ends = tuple(sorted(blown for blown in sets if is_end(board, on, blown)))
            self.assertEqual(ends, ends_by(board, on, ()))

    def test_small_boards(self):
        source = random.Random(102)
        counts = []
        for board, on in plain.small_boards(102, 400):
            counts.append(self.check_sets(board, on, plain.some_speeds(source, len(board[0]), 6)))
        self.assertGreater(len([many for many in counts if many > 2]), 50)

    def test_all_orders_of_small_boards(self):
        source = random.Random(103)
        for board, on in plain.small_boards(103, 60):
            self.check_orders(board, on, plain.some_speeds(source, len(board[0]), 5))

    def test_guarded_and_unguarded_boards(self):
        source = random.Random(104)
        counts = {True: 0, False: 0}
        for _ in range(250):
            board, _ = plain.some_board(source, source.randint(2, 5), source.randint(1, 5))
            counts[self.check_guarded(board, plain.some_speeds(source, len(board[0]), 8))] += 1
        self.assertGreater(min(counts.values()), 40, counts)

    def test_values_of_other_kinds(self):
        hot = (marked(chain(6), [0] * 6), tuple((fuse, 1) for fuse in range(6)))
        for value in NO_FUSES + ((6,), (0, 6), (5, 4, 4), (5, True), (5, "4"), [5, 4], [], [5]):
            kept = copy.deepcopy(value)
            self.assertIs(False, is_order_by(hot, tuple(range(6)), (), value), value)
            self.assertIs(False, is_order_by(EXAMPLE, ALL_ON, ((1, 0),), value), value)
            self.assertEqual(repr(kept), repr(value))
        self.assertIs(True, is_order_by(hot, tuple(range(6)), (), (5, 4, 3, 2, 1, 0)))
        self.assertIs(False, is_order_by(hot, tuple(range(6)), (), (4, 5)))

    def test_great_boards(self):
        for board in GREAT_BOARDS:
            self.assertRaises(TooGreat, come_by, board, (), ())
            self.assertRaises(TooGreat, ends_by, board, (), ())
            self.assertRaises(TooGreat, order_by, board, (), (), ())
            self.assertRaises(TooGreat, is_guarded, board, ())
            self.assertRaises(TooGreat, unguarded, board, ())
            for value in ((), (0,), None, [], (None,)):
                self.assertRaises(TooGreat, is_order_by, board, (), (), value)
        # What else is passed is not even looked at.
        for other in (None, 7, (None,)):
            self.assertRaises(TooGreat, come_by, GREAT_BOARDS[0], other, other)
            self.assertRaises(TooGreat, ends_by, GREAT_BOARDS[0], other, other)
            self.assertRaises(TooGreat, order_by, GREAT_BOARDS[0], other, other, other)
            self.assertRaises(TooGreat, is_order_by, GREAT_BOARDS[0], other, other, other)
            self.assertRaises(TooGreat, is_guarded, GREAT_BOARDS[0], other)
            self.assertRaises(TooGreat, unguarded, GREAT_BOARDS[0], other)

    def test_the_greatest_small_boards(self):
        every = tuple(range(6))
        for shape in plain.SHAPES:
            for mark in (0, 1, 2):
                board = (marked(shape(6), [mark] * 6), tuple((fuse, 1) for fuse in range(6)))
                for speeds in ((), ((5, 0),), tuple((fuse + 1, fuse) for fuse in range(5))):
                    self.check_sets(board, every, speeds)
                self.check_guarded(board, tuple(itertools.combinations(range(6), 2)))

    def test_passed_by_name_and_left_as_it_was(self):
        speeds = ((1, 0),)
        self.assertEqual((None, "speeds"), speeds_error(board=EXAMPLE, value=None))
        self.assertEqual(((), (1,)), come_by(board=EXAMPLE, on=ALL_ON, speeds=speeds))
        self.assertEqual(((1,),), ends_by(board=EXAMPLE, on=ALL_ON, speeds=speeds))
        self.assertIs(True, is_order_by(board=EXAMPLE, on=ALL_ON, speeds=speeds, value=(1,)))
        self.assertEqual((1,), order_by(board=EXAMPLE, on=ALL_ON, speeds=speeds, blown=(1,)))
        self.assertIs(True, is_guarded(board=EXAMPLE, speeds=speeds))
        self.assertIsNone(unguarded(board=EXAMPLE, speeds=speeds))
        self.assertEqual(((1, 0),), speeds)


if __name__ == "__main__":
    unittest.main()
