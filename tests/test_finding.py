"""Promise [9], and [2] as far as it concerns finding."""

import copy
import itertools
import random
import unittest

from firstfuse.errors import FuseError, TooGreat
from firstfuse.finding import all_come, best_look, fewest_looks, fitting, maybe_blown, surely_blown
from tests import plain
from tests.plain import EXAMPLE, GREAT_BOARDS, STORY, chain, marked, star

PAUSE = ("pause",)
BY_SEEN = (fitting, surely_blown, maybe_blown, best_look, fewest_looks)


def looks_by_trying(sets, fuses):
    """The number of looks, by trying each fuse as the first one."""
    if len(sets) <= 1:
        return 0
    tried = []
    for fuse in fuses:
        others = [other for other in fuses if other != fuse]
        tried.append(1 + max(looks_by_trying([s for s in sets if (fuse in s) == blown], others) for blown in (0, 1)))
    return min(tried)


class FindingTest(unittest.TestCase):
    def check_seen(self, board, story, seen, sets):
        """All functions are to tell that these sets fit what is seen."""
        where = (board, story, seen)
        fuses = range(len(board[0]))
        self.assertEqual(repr(tuple(sorted(sets))), repr(fitting(board, story, seen)), where)
        counts = [sum(fuse in blown for blown in sets) for fuse in fuses]
        surely = tuple(fuse for fuse in fuses if sets and counts[fuse] == len(sets))
        self.assertEqual(repr(surely), repr(surely_blown(board, story, seen)), where)
        maybe = tuple(fuse for fuse in fuses if counts[fuse] > 0)
        self.assertEqual(repr(maybe), repr(maybe_blown(board, story, seen)), where)
        looks = repr(looks_by_trying(sets, fuses))
        if len(sets) <= 1:
            best, looks = None, "0"
        else:
            left = [max(many, len(sets) - many) for many in counts]
            best = left.index(min(left))
        self.assertEqual(repr(best), repr(best_look(board, story, seen)), where)
        self.assertEqual(looks, repr(fewest_looks(board, story, seen)), where)

    def check(self, board, story):
        """All functions against the search, with lamps seen that can be so and others; returns how many sets fit."""
        come = plain.all_blown(board, story)
        self.assertEqual(repr(tuple(sorted(come))), repr(all_come(board, story)), (board, story))
        on = plain.lamps_on(story)
        by_seen = {seen: [] for seen in ((), on, on[1:], tuple(range(len(board[1]))))}
        for blown in come:
            by_seen.setdefault(plain.lit_lamps(board, on, blown), []).append(blown)
        for seen, sets in by_seen.items():
            self.check_seen(board, story, seen, sets)
        return [len(sets) for sets in by_seen.values()]

    def test_the_example(self):
        self.assertEqual(((0,),), all_come(EXAMPLE, STORY))
        self.assertEqual(((0,),), fitting(EXAMPLE, STORY, ()))
        self.assertEqual((), fitting(EXAMPLE, STORY, (2,)))
        self.assertEqual(((0,),), all_come(EXAMPLE, STORY[:3]))
        self.assertEqual(((), (0,)), all_come(EXAMPLE, STORY[:2]))
        self.check(EXAMPLE, STORY)
        for end in range(len(STORY)):
            self.check(EXAMPLE, STORY[:end])

    def test_ascending_sets(self):
        # Python's order of tuples: one stands ahead of all those that it begins.
        board = (marked(star(4), (9, 0, 0, 0)), ((1, 1), (2, 1), (3, 1)))
        story = (("on", 2), ("on", 1), ("on", 0))
        self.assertEqual(
            ((), (1,), (1, 2), (1, 2, 3), (1, 3), (2,), (2, 3), (3,)), all_come(board, story))
        self.assertEqual(((1, 2, 3),), all_come(board, story + (PAUSE,)))
        self.check(board, story)
        self.check(board, story + (PAUSE,))

    def test_what_cannot_be(self):
        # Lamp 0 is never put on, and lamps 1 and 2 are behind one fuse: neither is ever lit alone.
        board = (((-1, 9), (0, 0), (0, 0)), ((0, 1), (1, 1), (1, 1)))
        story = (("on", 1), ("on", 2))
        for seen in ((0,), (1,), (2,), (0, 1), (0, 1, 2)):
            self.assertEqual((), fitting(board, story, seen))
            self.assertEqual(((), ()), (surely_blown(board, story, seen), maybe_blown(board, story, seen)))
            self.assertIsNone(best_look(board, story, seen))
            self.assertEqual("0", repr(fewest_looks(board, story, seen)))
        self.check(board, story)

    def test_one_set_that_fits(self):
        board = (((-1, 9), (0, 0)), ((1, 1),))
        story = (("on", 0),)
        self.assertEqual(((1,),), fitting(board, story, ()))
        self.assertEqual((1,), surely_blown(board, story, ()))
        self.assertEqual((1,), maybe_blown(board, story, ()))
        self.assertIsNone(best_look(board, story, ()))
        self.assertEqual("0", repr(fewest_looks(board, story, ())))
        self.assertEqual(((),), fitting(board, story, (0,)))
        self.assertEqual(((), ()), (surely_blown(board, story, (0,)), maybe_blown(board, story, (0,))))
        self.assertEqual("0", repr(fewest_looks(board, story, (0,))))

    def test_several_sets_that_fit(self):
        # Lamp 0, on the last fuse of a row of three, is dark as any one of them blows.
        board = (marked(chain(3), (0, 0, 0)), ((2, 1),))
        story = (("on", 0), PAUSE)
        self.assertEqual(((0,), (1,), (2,)), fitting(board, story, ()))
        self.assertEqual((), surely_blown(board, story, ()))
        self.assertEqual((0, 1, 2), maybe_blown(board, story, ()))
        self.assertEqual(0, best_look(board, story, ()))
        self.assertEqual(2, fewest_looks(board, story, ()))
        self.check(board, story)

    def test_the_best_look_is_not_the_first_fuse(self):
        # Fuse 1 surely blows, fuses 2 to 4 each may, fuse 0 and 5 never do; the lamps are put off again.
        board = (marked(star(6), (9, 0, 0, 0, 0, 9)), ((1, 1), (2, 1), (3, 1), (4, 1)))
        story = (("on", 0), PAUSE) + tuple((word, lamp) for lamp in (1, 2, 3) for word in ("on", "off"))
        self.assertEqual(8, len(fitting(board, story, ())))
        self.assertEqual((1,), surely_blown(board, story, ()))
        self.assertEqual((1, 2, 3, 4), maybe_blown(board, story, ()))
        self.assertEqual(2, best_look(board, story, ()))
        self.assertEqual(3, fewest_looks(board, story, ()))
        self.check(board, story)

    def test_looks_that_are_not_halved_each_time(self):
        # Six sets that differ in one fuse each: five looks, as each look but the last may tell nothing.
        board = (marked(chain(6), [0] * 6), ((5, 1),))
        story = (("on", 0), PAUSE)
        self.assertEqual(6, len(fitting(board, story, ())))
        self.assertEqual(5, fewest_looks(board, story, ()))
        self.check(board, story)
        self.check(board, story[:1])

    def test_all_sets_of_six_fuses(self):
        board = (marked(star(6), [0] * 6), tuple((fuse, 1) for fuse in range(6)))
        story = tuple((word, lamp) for lamp in (5, 4, 3, 2, 1, 0) for word in ("on", "off"))
        self.assertEqual(tuple(sorted(plain.subsets(range(6)))), all_come(board, story))
        self.assertEqual(all_come(board, story), fitting(board, story, ()))
        self.assertEqual((0, 6), (best_look(board, story, ()), fewest_looks(board, story, ())))
        self.check(board, story)

    def test_stories_without_lamps(self):
        for board in (((((-1, 0),)), ()), (chain(6), ()), EXAMPLE):
            for story in ((), (PAUSE,) * 40):
                self.assertEqual(((),), all_come(board, story))
                self.assertEqual(((),), fitting(board, story, ()))
                self.check(board, story)

    def test_small_boards(self):
        source = random.Random(90)
        several = []
        for board, _ in plain.small_boards(90, 300):
            several.extend(self.check(board, plain.some_story(source, board, source.randint(0, 12))))
        self.assertGreater(len([many for many in several if many > 2]), 30)

    def test_small_boards_and_long_stories(self):
        source = random.Random(91)
        for _ in range(60):
            board, _ = plain.some_board(source, 6, 6)
            self.check(board, plain.some_story(source, board, 40))

    def test_great_boards(self):
        for board in GREAT_BOARDS:
            for story in ((), (PAUSE,), (("on", 0),)):
                self.assertRaises(TooGreat, all_come, board, story)
                for function in BY_SEEN:
                    self.assertRaises(TooGreat, function, board, story, ())
        self.assertEqual((FuseError,), TooGreat.__bases__)

    def test_great_boards_ahead_of_all_else(self):
        # What else is passed is not even looked at.
        for other in (None, (None,), ((),), 7, ("on", 99), (("on", 99),)):
            self.assertRaises(TooGreat, all_come, GREAT_BOARDS[0], other)
            for function in BY_SEEN:
                self.assertRaises(TooGreat, function, GREAT_BOARDS[0], other, other)

    def test_the_greatest_small_boards(self):
        for board in ((chain(6), ((0, 1),) * 6), (star(6), ((5, 100),) * 6), (chain(1), ((0, 9),) * 6), (chain(6), ())):
            self.check(board, (("on", 0), ("on", 1), PAUSE) if board[1] else (PAUSE,))

    def test_passed_by_name_and_left_as_it_was(self):
        story = STORY[:2]
        kept = copy.deepcopy((EXAMPLE, story))
        self.assertEqual(((), (0,)), all_come(board=EXAMPLE, story=story))
        for seen, found in (((), (((0,),), (0,), (0,), None, 0)), ((0, 2), (((),), (), (), None, 0))):
            for function, told in zip(BY_SEEN, found):
                self.assertEqual(told, function(board=EXAMPLE, story=story, seen=seen))
        self.assertEqual(repr(kept), repr((EXAMPLE, story)))

    def test_told_again(self):
        board = (marked(chain(3), (0, 0, 0)), ((2, 1),))
        for function, _ in itertools.product(BY_SEEN, range(2)):
            self.assertEqual(function(board, (("on", 0),), ()), function(board, (("on", 0),), ()))


if __name__ == "__main__":
    unittest.main()
