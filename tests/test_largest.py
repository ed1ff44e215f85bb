"""No call takes long, and what it tells is right, on boards of twenty fuses and thirty lamps, with stories of forty
deeds, and on the greatest small boards: promises [1], [2] and [4] to [10]."""

import collections
import itertools
import random
import time
import unittest

from firstfuse import coming, ends, fates, finding, loads, speeds, stories
from tests import plain
from tests.plain import SHAPES, beside, chain, marked, star

# A call takes some hundredths of a second; one that goes through all sets of fuses takes minutes.
SECONDS = 5
EVERY = tuple(range(30))


class QuickCase(unittest.TestCase):
    def tell(self, function, *told):
        """What the function returns; it is to be quick, and to change nothing."""
        kept = repr(told)
        begun = time.process_time()
        result = function(*told)
        self.assertLess(time.process_time() - begun, SECONDS, (function, told))
        self.assertEqual(kept, repr(told))
        return result


class LargestTest(QuickCase):
    def check_loads(self, board, on, blown):
        carried = plain.all_loads(board, on, blown)
        self.assertEqual(carried, self.tell(loads.loads, board, on, blown))
        self.assertEqual(carried[-1], self.tell(loads.load, board, on, blown, len(carried) - 1))
        self.assertEqual(plain.lit_lamps(board, on, blown), self.tell(loads.lit, board, on, blown))
        hot = plain.strained_fuses(board, on, blown)
        self.assertEqual(hot, self.tell(loads.strained, board, on, blown))
        self.assertIs(hot == (), self.tell(loads.at_rest, board, on, blown))

    def check_coming(self, board, on, blown):
        comes = self.tell(coming.can_come, board, on, blown)
        self.assertIs(comes, self.tell(coming.bar_for, board, on, blown) is None)
        order = self.tell(coming.order_for, board, on, blown)
        self.assertIs(comes, order is not None)
        if comes:
            self.assertEqual(blown, tuple(sorted(order)))
            self.assertIs(True, self.tell(coming.is_order, board, on, order))
        return comes

    def check_end(self, board, on, blown):
        self.assertIs(True, self.tell(ends.is_end, board, on, blown), (board, on, blown))
        self.assertTrue(self.check_coming(board, on, blown))
        self.check_loads(board, on, blown)

    def check(self, board, on):
        """Calls every function; holds together what they tell."""
        self.check_coming(board, on, tuple(range(len(board[0]))))
        fewest, most = self.tell(ends.fewest_end, board, on), self.tell(ends.most_end, board, on)
        bright, dim = self.tell(fates.brightest, board, on), self.tell(fates.darkest, board, on)
        least, greatest = self.tell(ends.least_load, board, on), self.tell(ends.greatest_load, board, on)
        lit_in = {blown: plain.lit_lamps(board, on, blown) for blown in (fewest, most, bright, dim)}
        for blown in lit_in:
            self.check_end(board, on, blown)
            self.assertTrue(len(fewest) <= len(blown) <= len(most))
            self.assertTrue(len(lit_in[dim]) <= len(lit_in[blown]) <= len(lit_in[bright]))
            self.assertTrue(least <= plain.all_loads(board, on, blown)[0] <= greatest)
        come, rest = self.tell(coming.count_come, board, on), self.tell(ends.count_ends, board, on)
        self.assertTrue(1 <= len(set(lit_in)) <= rest <= come <= 2 ** len(board[0]))
        words = self.tell(fates.fates, board, on)
        for lamp, word in zip(on, words):
            self.assertEqual(word, self.tell(fates.fate, board, on, lamp))
            told = {lamp in lamps for lamps in lit_in.values()}
            self.assertIn(word, ("lit", "dark", "open") if len(told) == 1 else ("open",))
            self.assertTrue(word == "open" or word == ("lit" if True in told else "dark"))
        for blown, lamps in lit_in.items():
            others = tuple(lamp for lamp in on if lamp not in lamps)
            self.check_end(board, on, self.tell(fates.shown, board, on, lamps, others))
        for fuse in range(len(board[0])):
            self.assertLessEqual(self.tell(fates.least_beside, board, on, fuse), plain.all_loads(board, on, ())[fuse])

    def test_all_shapes(self):
        for shape in SHAPES:
            for mark in (0, 1, 50, 500, 2999, 3000):
                for draw in (1, 100):
                    board = (marked(shape(20), [mark] * 20), tuple((lamp % 20, draw) for lamp in range(30)))
                    for on in ((), tuple(range(0, 30, 3)), EVERY):
                        self.check(board, on)

    def test_all_shapes_with_marks_near_the_loads(self):
        for shape in SHAPES:
            for seed in range(4):
                source = random.Random(seed)
                lamps = tuple((source.randrange(20), source.randint(1, 100)) for _ in range(30))
                full = plain.all_loads((shape(20), lamps), EVERY, ())
                for least in (0, 50, 90):
                    marks = [min(3000, total * source.randint(least, 101) // 100) for total in full]
                    self.check((marked(shape(20), marks), lamps), EVERY)

    def test_loads_of_many_kinds(self):
        # The loads that the two halves can have are nearly all unlike: sums of powers of two.
        draws = [1, 2, 4, 8, 16, 32, 64, 100, 100]
        fuses = ((-1, 1500), (0, 3000)) + ((1, 0),) * 9 + ((0, 3000),) + ((11, 0),) * 8
        lamps = tuple((2 + index, draw) for index, draw in enumerate(draws))
        lamps += tuple((12 + index, draw) for index, draw in enumerate(draws[:8]))
        self.check((fuses, lamps + ((0, 100),) * 13), EVERY)
        for mark in (0, 1000, 1001):
            self.check((((-1, mark),) + fuses[1:], lamps + ((0, 77),) * 13), EVERY)

    def test_random_boards(self):
        source = random.Random(20)
        for _ in range(60):
            board, on = plain.some_board(source, 20, 30)
            self.check(board, on)


class StoriesTest(QuickCase):
    def check_tale(self, board, story, tale):
        """All functions are to go along with a tale of the story."""
        self.assertIs(True, self.tell(stories.is_tale, board, story, tale), (board, story, tale))
        at = {fuse: moment for moment, row in enumerate(tale) for fuse in row}
        blown = tuple(sorted(at))
        self.assertIs(True, self.tell(stories.can_have_come, board, story, blown))
        earliest = self.tell(stories.moments, board, story, blown)
        self.assertTrue(all(first <= at[fuse] for fuse, first in zip(blown, earliest)))
        found = self.tell(stories.tale_for, board, story, blown)
        self.assertTrue(plain.is_plain_tale(board, story, found))
        self.assertEqual(earliest, tuple(m for f in blown for m, row in enumerate(found) if f in row))
        self.assertIs(True, self.tell(stories.is_tale, board, story, found))

    def check(self, source, board, story):
        self.assertIsNone(self.tell(stories.story_error, board, story))
        self.assertEqual(plain.lamps_on(story), self.tell(stories.on_after, board, story))
        self.check_tale(board, story, plain.some_tale(source, board, story))
        for blown in (tuple(range(20)), tuple(range(1, 20, 2)), (0,), ()):
            told = self.tell(stories.moments, board, story, blown)
            tale = self.tell(stories.tale_for, board, story, blown)
            self.assertIs(told is None, tale is None)
            self.assertIs(told is not None, self.tell(stories.can_have_come, board, story, blown))
            if tale is not None:
                self.check_tale(board, story, tale)

    def test_drawn_stories(self):
        source = random.Random(23)
        for _ in range(60):
            board, _ = plain.some_board(source, 20, 30)
            self.check(source, board, plain.some_story(source, board, 40))

    def test_all_shapes(self):
        source = random.Random(24)
        every = tuple(("on", lamp) for lamp in range(30))
        for shape in SHAPES:
            for mark in (0, 1, 50, 500):
                for draw in (1, 100):
                    board = (marked(shape(20), [mark] * 20), tuple((lamp % 20, draw) for lamp in range(30)))
                    self.check(source, board, every + (("pause",),) * 10)
                    self.check(source, board, every[::-1] + tuple(("off", lamp) for lamp in range(10)))

    def test_a_row_that_blows_from_behind(self):
        # Each fuse has a lamp of its own; those of the lower ones are put on last, in a pause for each.
        board = (marked(chain(20), [0] * 20), tuple((fuse, 1) for fuse in range(20)))
        story = tuple(deed for lamp in range(19, -1, -1) for deed in (("on", lamp), ("pause",)))
        self.assertEqual(tuple(range(38, -1, -2)), self.tell(stories.moments, board, story, tuple(range(20))))
        self.assertEqual((0,), self.tell(stories.moments, board, story, (0,)))
        self.assertIsNone(self.tell(stories.moments, board, story, tuple(range(1, 20))))
        self.check(random.Random(25), board, story)
        # No sooner is there enough for the upper ones than all are on.
        story = tuple(("on", lamp) for lamp in range(19, -1, -1)) + (("pause",),) * 20
        self.assertEqual(tuple(range(19, -1, -1)), self.tell(stories.moments, board, story, tuple(range(20))))
        self.assertEqual((19, 0), self.tell(stories.moments, board, story, (0,) + tuple(range(1, 20)))[::19])


class SmallBoardsTest(QuickCase):
    """The functions for small boards, on those of six fuses and six lamps."""

    def test_finding(self):
        every = tuple(("on", lamp) for lamp in range(6))
        for shape in SHAPES:
            for mark in (0, 1, 2):
                board = (marked(shape(6), [mark] * 6), tuple((fuse, 1) for fuse in range(6)))
                for story in (every[::-1] + every * 5 + every[:4], tuple(("off", 0) for _ in range(34)) + every):
                    come = self.tell(finding.all_come, board, story)
                    self.assertEqual(tuple(sorted(plain.all_blown(board, story))), come)
                    for seen in ((), (0,), tuple(range(6))):
                        fits = self.tell(finding.fitting, board, story, seen)
                        looks = self.tell(finding.fewest_looks, board, story, seen)
                        self.assertTrue(len(fits) <= 2 ** looks and looks <= 6)
                        self.tell(finding.best_look, board, story, seen)
                        self.tell(finding.surely_blown, board, story, seen)
                        self.tell(finding.maybe_blown, board, story, seen)

    def test_speeds(self):
        every = tuple(range(6))
        for shape in SHAPES:
            for mark in (0, 1, 2, 5):
                board = (marked(shape(6), [mark] * 6), tuple((fuse, 1) for fuse in range(6)))
                for pairs in ((), tuple(itertools.combinations(every, 2)), tuple((f + 1, f) for f in range(5))):
                    self.assertIsNone(self.tell(speeds.speeds_error, board, pairs))
                    come = self.tell(speeds.come_by, board, every, pairs)
                    self.assertTrue(set(self.tell(speeds.ends_by, board, every, pairs)) <= set(come))
                    for blown in plain.subsets(every):
                        order = self.tell(speeds.order_by, board, every, pairs, blown)
                        self.assertIs(blown in come, order is not None)
                        if order is not None:
                            self.assertIs(True, self.tell(speeds.is_order_by, board, every, pairs, order))
                    told = self.tell(speeds.is_guarded, board, pairs)
                    self.assertIs(told, self.tell(speeds.unguarded, board, pairs) is None)


class PartsTest(unittest.TestCase):
    """Boards whose parts are searched one by one: ends and loads of the whole are told by those of the parts."""

    def totals(self, searches):
        """How many sets of fuses leave each load, in all parts together."""
        sums = collections.Counter({0: 1})
        for found in searches:
            more = collections.Counter()
            for carried in found.values():
                for total, many in sums.items():
                    more[total + carried[0]] += many
            sums = more
        return sums

    def parts(self, source):
        return [plain.some_board(source, count, lamp_count) for count, lamp_count in ((7, 10), (6, 10), (6, 10))]

    def test_behind_a_fuse_that_never_blows(self):
        source = random.Random(21)
        for _ in range(12):
            parts = self.parts(source)
            board, on = beside(parts, 3000)
            found = [plain.all_ends(*part) for part in parts]
            come = resting = 1
            for part, part_ends in zip(parts, found):
                come *= len(plain.all_coming(*part))
                resting *= len(part_ends)
            self.assertEqual((come, resting), (coming.count_come(board, on), ends.count_ends(board, on)))
            for pick, function in ((min, ends.fewest_end), (max, ends.most_end)):
                size = sum(pick(len(blown) for blown in part_ends) for part_ends in found)
                self.assertEqual(size, len(function(board, on)))
            for pick, function in ((min, ends.least_load), (max, ends.greatest_load)):
                number = sum(pick(carried[0] for carried in part_ends.values()) for part_ends in found)
                self.assertEqual(number, function(board, on))
            lamps = [[plain.lit_lamps(*part, blown) for blown in part_ends] for part, part_ends in zip(parts, found)]
            for pick, function in ((min, fates.darkest), (max, fates.brightest)):
                number = sum(pick(len(lit) for lit in part_lamps) for part_lamps in lamps)
                self.assertEqual(number, len(plain.lit_lamps(board, on, function(board, on))))
            self.assertEqual(sum([fates.fates(*part) for part in parts], ()), fates.fates(board, on))
            for blown in (fates.brightest(board, on), fates.darkest(board, on)):
                self.assertTrue(ends.is_end(board, on, blown))

    def test_behind_a_fuse_that_may_blow(self):
        source = random.Random(22)
        for _ in range(12):
            parts = self.parts(source)
            come = self.totals([plain.all_coming(*part) for part in parts])
            rest = self.totals([plain.all_ends(*part) for part in parts])
            for mark in {0, max(come) - 1, max(come), max(come) // 2, max(rest), max(0, max(rest) - 1), min(rest)}:
                board, on = beside(parts, mark)
                blowing = sum(many for total, many in come.items() if total > mark)
                resting = sum(many for total, many in rest.items() if total <= mark)
                self.assertEqual(sum(come.values()) + blowing, coming.count_come(board, on))
                self.assertEqual(resting + blowing, ends.count_ends(board, on))
                left = [total for total in rest if total <= mark] + ([0] if blowing else [])
                self.assertEqual(max(left), ends.greatest_load(board, on))
                self.assertEqual(min(left), ends.least_load(board, on))

    def test_far_more_sets_than_could_be_gone_through(self):
        board = (marked(star(20), [3000] + [0] * 19), tuple((1 + lamp % 19, 1 + lamp % 7) for lamp in range(30)))
        self.assertEqual(2 ** 19, coming.count_come(board, EVERY))
        self.assertEqual(1, ends.count_ends(board, EVERY))
        self.assertEqual(("dark",) * 30, fates.fates(board, EVERY))


if __name__ == "__main__":
    unittest.main()
