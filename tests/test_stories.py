"""Promise [8], guarantee (c) of [1], and [2] as far as they concern stories."""

import copy
import itertools
import random
import unittest

from firstfuse.stories import can_have_come, is_tale, moments, on_after, story_error, tale_for
from tests import plain
from tests.plain import EXAMPLE, NO_FUSES, STORY, chain, marked, star

PAUSE = ("pause",)

# None of these is a tuple, or a tuple of deeds.
NO_STORIES = (
    None, True, False, 0, 1, 10 ** 39, "", "pause", "on 3", [], [PAUSE], [("on", 0)], {}, {0: PAUSE}, {PAUSE: 0},
)
NO_DEEDS = (
    None, True, 0, -1, "", "pause", "on", "on 0", (), [], {}, ["pause"], ["on", 0], {"on": 0}, {"pause": 1},
    ("on",), ("off",), ("pause", 0), ("pause", None), ("pause", "pause"), ("on", 0, 0), ("off", 0, None), ("blow", 0),
    ("On", 0), ("ON", 0), ("Pause",), ("pause ",), ("",), ("", 0), (0, "on"), (0, 0), (None,), (None, 0), (("on",), 0),
    (["on"], 0), ({}, 0), ([],), ({},), ((),), (PAUSE,), ("on", True), ("on", False), ("off", True), ("on", None),
    ("on", "0"), ("on", ""), ("on", -1), ("off", -1), ("on", 4), ("off", 4), ("on", 10 ** 39), ("on", -(10 ** 39)),
    ("on", (0,)), ("on", [0]), ("on", []), ("on", {}), ("on", {0: 0}), (True, 0), (("pause",),), ("on", ("on", 0)),
    ("o", "n"), ("pause",) * 2, tuple(range(2000)), "ab",
)


def earliest_by_runs(runs, blown):
    """What moments is to tell, by all runs of the story."""
    fitting = [run for run in runs if blown == tuple(fuse for fuse, at in enumerate(run) if at is not None)]
    if not fitting:
        return None
    return tuple(min(run[fuse] for run in fitting) for fuse in blown)


class StoryErrorTest(unittest.TestCase):
    def test_stories(self):
        for story in ((), STORY, (PAUSE,), (PAUSE,) * 40, (("on", 3),) * 40, (("off", 0), ("off", 3), ("on", 0))):
            self.assertIsNone(story_error(EXAMPLE, story), story)
        lamps = (chain(1), ((0, 1),) * 30)
        self.assertIsNone(story_error(lamps, tuple(("on", lamp) for lamp in range(30))))
        self.assertIsNone(story_error((chain(1), ()), (PAUSE, PAUSE)))

    def test_no_tuple(self):
        for value in NO_STORIES:
            kept = copy.deepcopy(value)
            self.assertEqual((None, "story"), story_error(EXAMPLE, value), value)
            self.assertEqual(repr(kept), repr(value))

    def test_more_than_forty_deeds(self):
        for deed in (PAUSE, ("on", 0), ("off", 3)):
            self.assertIsNone(story_error(EXAMPLE, (deed,) * 40))
            for count in (41, 42, 2000):
                self.assertEqual((None, "story"), story_error(EXAMPLE, (deed,) * count))
        # The number of items is looked at ahead of the items.
        self.assertEqual((None, "story"), story_error(EXAMPLE, (None,) * 41))
        self.assertEqual((0, "deed"), story_error(EXAMPLE, (None,) * 40))
        self.assertEqual((39, "deed"), story_error(EXAMPLE, (PAUSE,) * 39 + (None,)))
        self.assertEqual((None, "story"), story_error(EXAMPLE, [PAUSE] * 40))

    def test_no_deed(self):
        for item in NO_DEEDS:
            kept = copy.deepcopy(item)
            for index in (0, 1, 5, 39):
                value = (("on", 0),) * index + (item,) + (PAUSE,) * (39 - index)
                self.assertEqual((index, "deed"), story_error(EXAMPLE, value), item)
            self.assertEqual(repr(kept), repr(item))

    def test_the_first_of_several(self):
        self.assertEqual((1, "deed"), story_error(EXAMPLE, (PAUSE, ("on", 4), None, ("on", True))))
        self.assertEqual((2, "deed"), story_error(EXAMPLE, (PAUSE, ("on", 3), [], ("on", 9))))

    def test_lamps_are_those_of_the_board(self):
        for count in range(31):
            board = (chain(2), ((1, 1),) * count)
            for word in ("on", "off"):
                for lamp in (0, count - 1, count, count + 1, 30):
                    told = None if 0 <= lamp < count else (1, "deed")
                    self.assertEqual(told, story_error(board, (PAUSE, (word, lamp))))

    def test_the_words_are_told_as_they_are(self):
        self.assertEqual("((1, 'deed'), (None, 'story'))", repr(
            (story_error(EXAMPLE, (PAUSE, 0)), story_error(EXAMPLE, 0))))


class OnAfterTest(unittest.TestCase):
    def test_deeds(self):
        for story, on in (
            ((), ()),
            ((PAUSE,), ()),
            ((("on", 2),), (2,)),
            ((("on", 2), ("on", 2)), (2,)),
            ((("off", 2),), ()),
            ((("off", 2), ("on", 2)), (2,)),
            ((("on", 2), ("off", 2)), ()),
            ((("on", 2), ("off", 2), ("off", 2)), ()),
            ((("on", 3), PAUSE, ("on", 0)), (0, 3)),
            ((("on", 3), ("on", 0), ("on", 1), ("off", 3), ("on", 2)), (0, 1, 2)),
            ((("on", 0), ("on", 1), ("off", 0), ("on", 0)), (0, 1)),
            (STORY, (0, 1, 2, 3)),
            (STORY[:4], (0, 1, 2)),
        ):
            self.assertEqual(repr(on), repr(on_after(EXAMPLE, story)))

    def test_drawn_stories(self):
        source = random.Random(80)
        for board, _ in plain.some_boards(80, 100, 8):
            story = plain.some_story(source, board, source.randint(0, 40))
            self.assertEqual(plain.lamps_on(story), on_after(board, story))


class StoriesTest(unittest.TestCase):
    def check_set(self, board, story, blown, told):
        """All functions are to tell of the blown fuses that these are the earliest moments; None if they cannot."""
        where = (board, story, blown)
        self.assertEqual(repr(told), repr(moments(board, story, blown)), where)
        self.assertIs(told is not None, can_have_come(board, story, blown), where)
        tale = tale_for(board, story, blown)
        self.assertIs(told is not None, tale is not None, where)
        if tale is not None:
            self.assertTrue(isinstance(tale, tuple) and all(isinstance(row, tuple) for row in tale), where)
            self.assertEqual(blown, tuple(sorted(sum(tale, ()))), where)
            self.assertTrue(plain.is_plain_tale(board, story, tale), where)
            self.assertIs(True, is_tale(board, story, tale), where)
        self.assertEqual(tale, tale_for(board, story, blown))

    def check_by_runs(self, board, story):
        runs = plain.all_runs(board, story)
        sets = set()
        for blown in plain.subsets(range(len(board[0]))):
            told = earliest_by_runs(runs, blown)
            if told is not None:
                sets.add(blown)
                # One and the same run has all of them blow so early.
                run = [None] * len(board[0])
                for fuse, moment in zip(blown, told):
                    run[fuse] = moment
                self.assertIn(tuple(run), runs)
            self.check_set(board, story, blown, told)
        self.assertEqual(sets, plain.all_blown(board, story))
        return sets

    def test_the_example(self):
        self.assertIsNone(story_error(EXAMPLE, STORY))
        for blown in plain.subsets((0, 1, 2)):
            self.check_set(EXAMPLE, STORY, blown, (1,) if blown == (0,) else None)
        self.assertIs(False, can_have_come(EXAMPLE, STORY, (1,)))
        self.assertEqual((1,), moments(EXAMPLE, STORY, (0,)))
        self.assertIsNone(moments(EXAMPLE, STORY, (0, 1)))
        self.check_by_runs(EXAMPLE, STORY)

    def test_the_example_without_its_pauses(self):
        story = (("on", 0), ("on", 2), ("on", 1), ("on", 3))
        self.check_set(EXAMPLE, story, (), ())
        self.check_set(EXAMPLE, story, (0,), (1,))
        self.check_set(EXAMPLE, story, (1,), (2,))
        self.check_set(EXAMPLE, story, (0, 1), None)
        self.check_by_runs(EXAMPLE, story)
        # Only the pause behind all of it has one of them blow.
        self.check_set(EXAMPLE, story + (PAUSE,), (), None)
        self.check_set(EXAMPLE, story + (PAUSE,), (1,), (2,))

    def test_stories_without_lamps(self):
        for story in ((), (PAUSE,), (PAUSE, PAUSE), (("off", 0), PAUSE)):
            self.check_set(EXAMPLE, story, (), ())
            for blown in plain.subsets((0, 1, 2)):
                if blown:
                    self.check_set(EXAMPLE, story, blown, None)
        self.assertEqual((), tale_for(EXAMPLE, (), ()))
        self.assertEqual(((), ()), tale_for(EXAMPLE, (PAUSE, PAUSE), ()))
        self.assertIs(True, is_tale(EXAMPLE, (), ()))

    def test_a_pause_has_time_for_all(self):
        board = (marked(chain(3), (0, 0, 0)), ((0, 1), (1, 1), (2, 1)))
        story = (("on", 2), ("on", 1), ("on", 0), PAUSE)
        # Fuse 2 can blow at once, the others wait for what they hold besides.
        self.check_set(board, story, (0, 1, 2), (2, 1, 0))
        self.check_set(board, story, (0, 2), (1, 0))
        self.check_set(board, story, (0,), (0,))
        self.check_set(board, story, (1, 2), None)
        self.check_set(board, story[:3], (1, 2), (1, 0))
        self.check_by_runs(board, story)

    def test_a_fuse_blows_in_the_pause_itself(self):
        board = (((-1, 4),), ((0, 3), (0, 3)))
        for story in ((("on", 0), ("on", 1), PAUSE), (("on", 0), ("on", 1), PAUSE, ("off", 0))):
            self.check_set(board, story, (0,), (1,))
            self.assertIs(True, is_tale(board, story, ((), (0,), ()) + ((),) * (len(story) - 3)))
            self.assertIs(True, is_tale(board, story, ((), (), (0,)) + ((),) * (len(story) - 3)))
            self.assertIs(False, is_tale(board, story, ((), (), ()) + ((),) * (len(story) - 3)))

    def test_a_lamp_put_off_again(self):
        # Only between the two deeds is there enough for the fuse.
        board = (((-1, 4),), ((0, 3), (0, 3)))
        story = (("on", 0), ("on", 1), ("off", 0), PAUSE)
        self.check_set(board, story, (), ())
        self.check_set(board, story, (0,), (1,))
        self.check_set(board, story[:1] + story[2:], (0,), None)

    def test_what_is_behind_blows_ahead_at_another_time(self):
        # Fuse 1 needs lamp 1, which is put off again; fuse 0 has enough at first, but then fuse 1 is whole.
        board = (((-1, 4), (0, 4)), ((0, 5), (1, 5)))
        story = (("on", 0), ("on", 1), ("off", 0), ("off", 1), ("on", 0))
        self.check_set(board, story, (0,), (0,))
        self.check_set(board, story, (1,), (1,))
        self.check_set(board, story, (0, 1), (1, 1))
        story = (("on", 0), ("off", 0), ("on", 1), ("off", 1), PAUSE, ("on", 0))
        self.check_set(board, story, (0, 1), (5, 2))
        self.check_set(board, story, (0,), (0,))
        self.check_by_runs(board, story)

    def test_pauses_one_after_another(self):
        board = (((-1, 4), (0, 4)), ((0, 5), (1, 5)))
        story = (("on", 1), PAUSE, ("on", 0), PAUSE)
        self.check_set(board, story, (0, 1), (2, 0))
        self.check_set(board, story, (0,), (0,))
        self.check_set(board, story, (1,), None)
        self.check_set(board, story[:3], (1,), (0,))
        self.check_set(board, story[:3], (), None)

    def test_short_stories_by_all_runs(self):
        source = random.Random(81)
        several = 0
        for board, _ in plain.some_boards(81, 300, 4):
            sets = self.check_by_runs(board, plain.some_story(source, board, source.randint(0, 9)))
            several += len(sets) > 2
        self.assertGreater(several, 50)

    def test_every_story_of_a_few_deeds(self):
        board = (((-1, 3), (0, 1), (0, 1)), ((1, 2), (2, 2)))
        deeds = (("on", 0), ("on", 1), ("off", 0), PAUSE)
        for length in range(6):
            for story in itertools.product(deeds, repeat=length):
                self.check_by_runs(board, story)

    def test_long_stories_by_all_sets(self):
        source = random.Random(82)
        several = 0
        for _ in range(120):
            board, _ = plain.some_board(source, source.randint(3, 6), source.randint(3, 9))
            story = plain.some_story(source, board, source.randint(8, 40))
            sets = plain.all_blown(board, story)
            several += len(sets) > 1
            for blown in plain.subsets(range(len(board[0]))):
                self.check_set(board, story, blown, moments(board, story, blown) if blown in sets else None)
                self.assertIs(blown in sets, moments(board, story, blown) is not None, (board, story, blown))
        self.assertGreater(several, 50)

    def test_no_run_is_earlier_than_moments(self):
        source = random.Random(83)
        for _ in range(300):
            board, _ = plain.some_board(source, source.randint(3, 9), source.randint(3, 12))
            story = plain.some_story(source, board, source.randint(8, 40))
            tale = plain.some_tale(source, board, story)
            self.assertIs(True, is_tale(board, story, tale))
            at = {fuse: moment for moment, row in enumerate(tale) for fuse in row}
            blown = tuple(sorted(at))
            told = moments(board, story, blown)
            self.assertIsNotNone(told, (board, story, blown))
            self.assertTrue(all(moment <= at[fuse] for fuse, moment in zip(blown, told)))
            self.assertTrue(plain.is_plain_tale(board, story, tale_for(board, story, blown)))

    def test_values_that_are_no_sets(self):
        hot = (marked(chain(20), [0] * 20), tuple((fuse, 1) for fuse in range(20)))
        story = tuple(("on", lamp) for lamp in range(20))
        for value in NO_FUSES:
            kept = copy.deepcopy(value)
            self.assertIs(False, can_have_come(hot, story, value), value)
            self.assertIs(False, can_have_come(hot, (), value), value)
            self.assertIs(False, can_have_come(EXAMPLE, STORY, value), value)
            self.assertEqual(repr(kept), repr(value))
        for value in itertools.permutations((0, 1, 2)):
            self.assertIs(value == (0, 1, 2), can_have_come(hot, story, value))
        for value in ([], [0], {0: 1}, {}, "", None, (False,), ("0",), (3,), (0, 3), (-1,), (0, 0), ((0,),)):
            self.assertIs(False, can_have_come(EXAMPLE, STORY, value), value)
        self.assertIs(True, can_have_come(EXAMPLE, STORY, (0,)))
        self.assertIs(True, can_have_come(hot, (), ()))


class TaleTest(unittest.TestCase):
    def test_tales_of_the_example(self):
        self.assertIs(True, is_tale(EXAMPLE, STORY, ((), (0,), (), (), (), ())))
        self.assertIs(True, is_tale(EXAMPLE, STORY, ((), (), (0,), (), (), ())))
        for value in (
            ((0,), (), (), (), (), ()),
            ((), (), (), (0,), (), ()),
            ((), (), (), (), (), ()),
            ((), (0,), (0,), (), (), ()),
            ((), (0, 0), (), (), (), ()),
            ((), (0, 1), (), (), (), ()),
            ((), (1,), (), (), (), ()),
            ((), (0,), (), (), (), (1,)),
        ):
            self.assertIs(False, is_tale(EXAMPLE, STORY, value), value)

    def test_as_many_items_as_deeds(self):
        for value in ((), ((),), ((), (0,)), ((), (0,), (), (), ()), ((), (0,), (), (), (), (), ())):
            self.assertIs(False, is_tale(EXAMPLE, STORY, value), value)
        self.assertIs(False, is_tale(EXAMPLE, (), ((),)))

    def test_order_behind_one_deed(self):
        board = (marked(chain(3), (0, 0, 0)), ((0, 1), (1, 1), (2, 1)))
        story = (("on", 0), ("on", 1), ("on", 2))
        for row in itertools.permutations((0, 1, 2)):
            self.assertIs(row == (2, 1, 0), is_tale(board, story, ((), (), row)), row)
        self.assertIs(True, is_tale(board, story, ((), (1,), (0,))))
        self.assertIs(False, is_tale(board, story, ((), (1,), (2, 0))))
        self.assertIs(False, is_tale(board, story, ((), (1, 0), (2,))))
        self.assertIs(False, is_tale(board, story, ((), (1,), (1,))))

    def test_a_pause_that_is_not_over(self):
        board = (marked(star(3), (9, 0, 0)), ((1, 1), (2, 1)))
        story = (("on", 0), ("on", 1), PAUSE, ("off", 0))
        for value, told in (
            (((), (), (1, 2), ()), True),
            (((), (), (2, 1), ()), True),
            (((1,), (2,), (), ()), True),
            (((1,), (), (2,), ()), True),
            (((), (2,), (1,), ()), True),
            (((), (), (1,), (2,)), False),
            (((), (), (1,), ()), False),
            (((1,), (), (), ()), False),
            (((2,), (1,), (), ()), False),
            (((1, 2), (), (), ()), False),
        ):
            self.assertIs(told, is_tale(board, story, value), value)
        # Without the pause nothing has to blow.
        self.assertIs(True, is_tale(board, story[:2], ((), ())))
        self.assertIs(True, is_tale(board, story[:2] + story[3:], ((), (), (2,))))
        self.assertIs(False, is_tale(board, story[:2] + story[3:], ((), (), (1,))))

    def test_tales_with_a_fuse_moved_or_left_out(self):
        source = random.Random(84)
        counts = {True: 0, False: 0}
        for _ in range(400):
            board, _ = plain.some_board(source, source.randint(2, 6), source.randint(2, 8))
            story = plain.some_story(source, board, source.randint(4, 12))
            tale = plain.some_tale(source, board, story)
            for moment, row in enumerate(tale):
                for at, fuse in enumerate(row):
                    less = tale[:moment] + (row[:at] + row[at + 1:],) + tale[moment + 1:]
                    others = [less, tale[:moment] + (tuple(reversed(row)),) + tale[moment + 1:]]
                    for other in range(len(tale)):
                        others.append(less[:other] + (less[other] + (fuse,),) + less[other + 1:])
                        others.append(less[:other] + ((fuse,) + less[other],) + less[other + 1:])
                    for value in others:
                        told = plain.is_plain_tale(board, story, value)
                        counts[told] += 1
                        self.assertIs(told, is_tale(board, story, value), (board, story, value))
        self.assertTrue(min(counts.values()) > 200, counts)

    def test_values_of_other_kinds(self):
        hot = (marked(star(3), (9, 0, 0)), ((1, 1), (2, 1)))
        story = (("on", 0), ("on", 1))
        self.assertIs(True, is_tale(hot, story, ((1,), (2,))))
        for value in NO_FUSES + NO_STORIES:
            kept = copy.deepcopy(value)
            self.assertIs(False, is_tale(hot, story, value), value)
            self.assertIs(False, is_tale(hot, story[:1], (value,)), value)
            self.assertIs(False, is_tale(hot, story, ((), value)), value)
            self.assertIs(False, is_tale(hot, story, (value, (2,))), value)
            self.assertIs(False, is_tale(EXAMPLE, STORY, value), value)
            self.assertEqual(repr(kept), repr(value))
        for value in (
            [(1,), (2,)], ([1], (2,)), ((1,), [2]), ((1,), [2], ()), ((True,), (2,)), ((1,), ("2",)), ((1,), {2: 2}),
            ((1,), (2,), ()), ((1,), 2), (1, 2), ((1,), None), ((1,), (None,)), ((1,), ((2,),)), ((1,), (3,)), ((1,),),
            ((1,), (-1,)), ([], []), ([], ()), {(): ()}, ((1,), (2, True)), ((1,), (2, [])), "ab", ("", ""), (((), ()),),
        ):
            self.assertIs(False, is_tale(hot, story, value), value)
        self.assertIs(False, is_tale(hot, (), []))
        self.assertIs(False, is_tale(hot, (), ""))
        self.assertIs(False, is_tale(hot, (), None))

    def test_false_is_no_fuse(self):
        board = (((-1, 0),), ((0, 1),))
        self.assertIs(True, is_tale(board, (("on", 0),), ((0,),)))
        self.assertIs(False, is_tale(board, (("on", 0),), ((False,),)))
        self.assertIs(False, can_have_come(board, (("on", 0),), (False,)))

    def test_passed_by_name(self):
        self.assertEqual((None, "story"), story_error(board=EXAMPLE, value=[]))
        self.assertEqual((0, 1, 2, 3), on_after(board=EXAMPLE, story=STORY))
        self.assertEqual((1,), moments(board=EXAMPLE, story=STORY, blown=(0,)))
        self.assertIs(True, can_have_come(board=EXAMPLE, story=STORY, value=(0,)))
        self.assertIs(True, is_tale(board=EXAMPLE, story=STORY, value=((), (0,), (), (), (), ())))
        self.assertTrue(plain.is_plain_tale(EXAMPLE, STORY, tale_for(board=EXAMPLE, story=STORY, blown=(0,))))


if __name__ == "__main__":
    unittest.main()
