"""Promises [1] and [2] over the whole program: the guarantees (a) to (e), other numbers, boards side by side, arguments
by name."""

import copy
import importlib
import itertools
import random
import unittest

from firstfuse.alike import outcomes, parting, spare
from firstfuse.always import (
    count_safe, heaviest_safe, is_safe, lamps_for, least_marks, most_safe, never_blows, steady,
)
from firstfuse.boards import board_error, fuses_behind, lamps_behind, way_of
from firstfuse.coming import bar_for, can_come, count_come, is_order, order_for
from firstfuse.ends import count_ends, fewest_end, greatest_load, is_end, least_load, most_end
from firstfuse.errors import TooGreat
from firstfuse.fates import brightest, darkest, fates, least_beside, shown
from firstfuse.finding import all_come, best_look, fewest_looks, fitting, maybe_blown, surely_blown
from firstfuse.loads import lit, loads, strained
from firstfuse.panels import Panel
from firstfuse.speeds import come_by, ends_by, is_guarded, is_order_by, order_by, speeds_error, unguarded
from firstfuse.stories import can_have_come, is_tale, moments, on_after, story_error, tale_for
from firstfuse.texts import board_text, read_board, read_story, story_text
from tests import plain
from tests.plain import EXAMPLE, beside
from tests.test_layout import INTERFACE


def some_set(source, count, share=0.4):
    return tuple(item for item in range(count) if source.random() < share)


def some_run(source, board, on):
    """Fuses that blow one after another, in their order, till a moment; None is left out of what may be next."""
    order = ()
    hot = plain.strained_fuses(board, on, order)
    while hot and source.random() < 0.9:
        order += (source.choice(hot),)
        hot = plain.strained_fuses(board, on, order)
    return order


def some_end(source, board, on):
    blown = ()
    hot = plain.strained_fuses(board, on, blown)
    while hot:
        blown += (source.choice(hot),)
        hot = plain.strained_fuses(board, on, blown)
    return tuple(sorted(blown))


def boards_of_all_sizes(seed, each):
    source = random.Random(seed)
    for fuse_count in range(1, 21):
        for _ in range(each):
            board, on = plain.some_board(source, fuse_count, source.randint(0, min(30, 2 * fuse_count + 2)))
            yield source, board, on


class GuaranteesTest(unittest.TestCase):
    def check_a(self, board, on, blown):
        """(a), for one set: an order, or the fuse that bars it."""
        where = (board, on, blown)
        order, bar = order_for(board, on, blown), bar_for(board, on, blown)
        self.assertIs(order is None, bar is not None, where)
        self.assertIs(bar is None, can_come(board, on, blown), where)
        if order is not None:
            self.assertIs(True, is_order(board, on, order), where)
            self.assertEqual(blown, tuple(sorted(order)), where)
            self.assertTrue(all(f in plain.strained_fuses(board, on, order[:k]) for k, f in enumerate(order)), where)
        else:
            behind = tuple(other for other in blown if other != bar and bar in plain.way(board, other))
            self.assertNotIn(bar, plain.strained_fuses(board, on, behind), where)

    def test_a_rows_and_bars(self):
        for source, board, on in boards_of_all_sizes(150, 10):
            for _ in range(6):
                order = some_run(source, board, on)
                self.assertIs(True, is_order(board, on, order))
                self.assertIs(True, can_come(board, on, tuple(sorted(order))))
                self.check_a(board, on, tuple(sorted(order)))
                self.check_a(board, on, some_set(source, len(board[0])))
                self.check_a(board, on, tuple(sorted(set(order) ^ {source.randrange(len(board[0]))})))

    def test_b_lamps_lit_and_dark(self):
        found = {True: 0, False: 0}
        for source, board, on in boards_of_all_sizes(151, 10):
            ends = [some_end(source, board, on) for _ in range(6)]
            lamps = [plain.lit_lamps(board, on, end) for end in ends]
            for number in range(8):
                bright = [lamp for lamp in on if source.random() < 0.3]
                dark = [lamp for lamp in on if lamp not in bright and source.random() < 0.3]
                if number < 4:
                    bright = [lamp for lamp in bright if lamp in lamps[number]]
                    dark = [lamp for lamp in dark if lamp not in lamps[number]]
                told = shown(board, on, tuple(bright), tuple(dark))
                found[told is not None] += 1
                if any(set(bright) <= set(left) and not set(dark) & set(left) for left in lamps):
                    self.assertIsNotNone(told)
                if told is not None:
                    left = plain.lit_lamps(board, on, told)
                    self.assertTrue(set(bright) <= set(left) and not set(dark) & set(left))
                    self.assertIs(True, is_end(board, on, told))
                elif len(board[0]) < 8:
                    every = [plain.lit_lamps(board, on, end) for end in plain.all_ends(board, on)]
                    self.assertFalse(any(set(bright) <= set(left) and not set(dark) & set(left) for left in every))
        self.assertGreater(min(found.values()), 100)

    def test_c_what_is_accepted_and_what_is_returned(self):
        for source, board, on in boards_of_all_sizes(152, 6):
            for told in (fewest_end(board, on), most_end(board, on), shown(board, on, (), ()), some_end(source, board, on)):
                self.assertIs(True, is_end(board, on, told))
                self.assertEqual((), plain.strained_fuses(board, on, told))
                self.check_a(board, on, told)
            story = plain.some_story(source, board, source.randint(0, 40))
            tale = plain.some_tale(source, board, story)
            self.assertIs(True, is_tale(board, story, tale))
            blown = tuple(sorted(sum(tale, ())))
            for chosen in (blown, some_set(source, len(board[0])), blown[1:], ()):
                told = tale_for(board, story, chosen)
                self.assertIs(told is not None, can_have_come(board, story, chosen))
                if told is not None:
                    self.assertIs(True, is_tale(board, story, told))
                    self.assertTrue(plain.is_plain_tale(board, story, told))
                    self.assertEqual(chosen, tuple(sorted(sum(told, ()))))
            self.assertIsNotNone(tale_for(board, story, blown))

    def test_d_counts(self):
        source = random.Random(153)
        for fuse_count in (1, 2, 3, 5, 8, 9, 10, 11):
            for _ in range(4):
                board, on = plain.some_board(source, fuse_count, fuse_count + 3)
                sets = list(plain.subsets(range(fuse_count)))
                self.assertEqual(sum(can_come(board, on, blown) for blown in sets), count_come(board, on))
                self.assertEqual(sum(is_end(board, on, blown) for blown in sets), count_ends(board, on))

    def test_e_panels(self):
        for source, board, _ in boards_of_all_sizes(154, 4):
            panel = Panel(board)
            for deed in plain.some_story(source, board, 40):
                # There are at most forty deeds, and twenty fuses that blow: sixty edits.
                while panel.strained() and (panel.story[-1] == ("pause",) or source.random() < 0.4):
                    panel.blow(source.choice(panel.strained()))
                {"on": panel.put_on, "off": panel.put_off, "pause": lambda _: panel.pause()}[deed[0]](deed[-1])
                if source.random() < 0.1:
                    panel.undo()
                    panel.redo()
                on, blown = panel.on, panel.blown
                self.assertEqual(plain.lamps_on(panel.story), on)
                self.assertEqual((on_after(board, panel.story), lit(board, on, blown)), (on, panel.lit()))
                self.assertEqual(strained(board, on, blown), panel.strained())
                if panel.strained() == () or panel.story[-1] != ("pause",):
                    self.assertIs(True, is_tale(board, panel.story, panel.tale))
                    self.assertIs(True, can_have_come(board, panel.story, panel.blown))
                self.assertEqual(panel.story, read_story(board, str(panel)))


class NumbersTest(unittest.TestCase):
    """The same board with its fuses and lamps numbered otherwise."""

    def renumber(self, source, board):
        """The board with other numbers, and the new numbers of its fuses and of its lamps."""
        fuses, lamps = board
        row = []
        while len(row) < len(fuses):
            row.append(source.choice([f for f in range(len(fuses)) if f not in row and fuses[f][0] in [-1] + row]))
        new_fuses = {fuse: index for index, fuse in enumerate(row)}
        lamp_row = source.sample(range(len(lamps)), len(lamps))
        new_lamps = {lamp: index for index, lamp in enumerate(lamp_row)}
        other = (
            tuple((new_fuses.get(fuses[fuse][0], -1), fuses[fuse][1]) for fuse in row),
            tuple((new_fuses[lamps[lamp][0]], lamps[lamp][1]) for lamp in lamp_row),
        )
        self.assertIsNone(board_error(other))
        return other, new_fuses, new_lamps

    def setUp(self):
        self.new_fuses = self.new_lamps = {}

    def fuses(self, items):
        return tuple(sorted(self.new_fuses[item] for item in items))

    def lamps(self, items):
        return tuple(sorted(self.new_lamps[item] for item in items))

    def fuse_sets(self, sets):
        return tuple(sorted(self.fuses(items) for items in sets))

    def story(self, story):
        return tuple((deed[0],) + tuple(self.new_lamps[lamp] for lamp in deed[1:]) for deed in story)

    def by_fuse(self, row):
        return tuple(row[fuse] for fuse in sorted(self.new_fuses, key=self.new_fuses.get))

    def check_one(self, board, other, on, fuse, lot):
        on_there, there = self.lamps(on), self.new_fuses[fuse]
        self.assertEqual(tuple(self.new_fuses[at] for at in way_of(board, fuse)), way_of(other, there))
        self.assertEqual(self.fuses(fuses_behind(board, fuse)), fuses_behind(other, there))
        self.assertEqual(self.lamps(lamps_behind(board, fuse)), lamps_behind(other, there))
        self.assertEqual(least_beside(board, on, fuse), least_beside(other, on_there, there))
        few, others = lamps_for(board, fuse), lamps_for(other, there)
        self.assertEqual(few and len(few), others and len(others))
        self.assertEqual(self.by_fuse(least_marks(board, (on, lot))), least_marks(other, (on_there, self.lamps(lot))))

    def check_sets(self, board, other, on, blown):
        on_there, there = self.lamps(on), self.fuses(blown)
        self.assertEqual(self.lamps(lit(board, on, blown)), lit(other, on_there, there))
        self.assertEqual(self.by_fuse(loads(board, on, blown)), loads(other, on_there, there))
        self.assertEqual(self.fuses(strained(board, on, blown)), strained(other, on_there, there))
        self.assertIs(can_come(board, on, blown), can_come(other, on_there, there))
        self.assertIs(is_end(board, on, blown), is_end(other, on_there, there))
        order = order_for(board, on, blown)
        if order is not None:
            self.assertIs(True, is_order(other, on_there, tuple(self.new_fuses[fuse] for fuse in order)))

    def check_numbers(self, board, other, on):
        there = self.lamps(on)
        for function in (count_come, count_ends, least_load, greatest_load):
            self.assertEqual(function(board, on), function(other, there))
        for function in (fewest_end, most_end):
            self.assertEqual(len(function(board, on)), len(function(other, there)))
        for function in (brightest, darkest):
            self.assertEqual(len(lit(board, on, function(board, on))), len(lit(other, there, function(other, there))))
        told = dict(zip(self.lamps(on), fates(other, there)))
        self.assertEqual(fates(board, on), tuple(told[self.new_lamps[lamp]] for lamp in on))
        self.assertEqual(self.fuses(never_blows(board)), never_blows(other))
        self.assertEqual(self.lamps(steady(board)), steady(other))
        self.assertIs(is_safe(board, on), is_safe(other, there))
        self.assertEqual(count_safe(board), count_safe(other))
        self.assertEqual(len(most_safe(board)), len(most_safe(other)))
        self.assertEqual(loads(board, heaviest_safe(board), ())[0], loads(other, heaviest_safe(other), ())[0])

    def check_story(self, board, other, story, tale):
        there = self.story(story)
        blown = tuple(sorted(sum(tale, ())))
        self.assertEqual(self.lamps(on_after(board, story)), on_after(other, there))
        self.assertIs(True, is_tale(other, there, tuple(tuple(self.new_fuses[f] for f in row) for row in tale)))
        for chosen in (blown, blown[1:], blown[:-1]):
            told, others = moments(board, story, chosen), moments(other, there, self.fuses(chosen))
            if told is None:
                self.assertIsNone(others)
            else:
                self.assertEqual(sorted(zip([self.new_fuses[f] for f in chosen], told)),
                                 list(zip(self.fuses(chosen), others)))

    def check_small(self, board, other, on, story, speeds):
        there, story_there = self.lamps(on), self.story(story)
        speeds_there = tuple(sorted((self.new_fuses[quick], self.new_fuses[slow]) for quick, slow in speeds))
        self.assertIsNone(speeds_error(other, speeds_there))
        self.assertEqual(self.fuse_sets(all_come(board, story)), all_come(other, story_there))
        burning = on_after(board, story)
        for seen in {lit(board, burning, blown) for blown in all_come(board, story)}:
            told = (board, story, seen)
            others = (other, story_there, self.lamps(seen))
            self.assertEqual(self.fuse_sets(fitting(*told)), fitting(*others))
            self.assertEqual(self.fuses(surely_blown(*told)), surely_blown(*others))
            self.assertEqual(self.fuses(maybe_blown(*told)), maybe_blown(*others))
            self.assertEqual(fewest_looks(*told), fewest_looks(*others))
            self.assertIs(best_look(*told) is None, best_look(*others) is None)
        for function in (come_by, ends_by):
            self.assertEqual(self.fuse_sets(function(board, on, speeds)), function(other, there, speeds_there))
        for blown in come_by(board, on, speeds):
            order = order_by(board, on, speeds, blown)
            self.assertIs(True, is_order_by(other, there, speeds_there, tuple(self.new_fuses[f] for f in order)))
        self.assertIs(is_guarded(board, speeds), is_guarded(other, speeds_there))
        self.assertIs(unguarded(board, speeds) is None, unguarded(other, speeds_there) is None)
        told = tuple(sorted(self.lamps(lamps) for lamps in outcomes(board, on)))
        self.assertEqual(told, outcomes(other, there))
        self.assertEqual(self.fuses(spare(board)), spare(other))

    def test_all_sizes(self):
        for source, board, on in boards_of_all_sizes(160, 5):
            other, self.new_fuses, self.new_lamps = self.renumber(source, board)
            self.check_numbers(board, other, on)
            lot = some_set(source, len(board[1]))
            self.check_one(board, other, on, source.randrange(len(board[0])), lot)
            for blown in (some_set(source, len(board[0])), some_end(source, board, on), ()):
                self.check_sets(board, other, on, blown)
            story = plain.some_story(source, board, source.randint(0, 40))
            self.check_story(board, other, story, plain.some_tale(source, board, story))

    def test_small_boards(self):
        source = random.Random(161)
        for board, on in plain.small_boards(161, 80):
            other, self.new_fuses, self.new_lamps = self.renumber(source, board)
            story = plain.some_story(source, board, source.randint(0, 15))
            self.check_small(board, other, on, story, plain.some_speeds(source, len(board[0]), 5))

    def test_lamps_that_keep_their_numbers(self):
        # A board is alike another one that only has its fuses numbered otherwise.
        source = random.Random(162)
        for board, _ in plain.small_boards(162, 60):
            other, _, new_lamps = self.renumber(source, board)
            kept = (other[0], tuple(other[1][new_lamps[lamp]] for lamp in range(len(board[1]))))
            self.assertIsNone(parting(board, kept))


class SideBySideTest(unittest.TestCase):
    """Parts on a new first fuse that never blows: what is told of the board is put together of what is told of them."""

    def drawn(self, seed, count, sizes):
        source = random.Random(seed)
        for _ in range(count):
            parts = [plain.some_board(source, source.randint(1, f), source.randint(0, n)) for f, n in sizes]
            firsts = [1 + sum(len(part[0]) for part, _ in parts[:at]) for at in range(len(parts))]
            lamps = [sum(len(part[1]) for part, _ in parts[:at]) for at in range(len(parts))]
            yield (source,) + beside(parts, 3000) + (parts, firsts, lamps)

    def shifted(self, rows, firsts):
        return tuple(item + first for row, first in zip(rows, firsts) for item in row)

    def products(self, choices, firsts):
        """All sets made of one set of each part."""
        return tuple(sorted(self.shifted(rows, firsts) for rows in itertools.product(*choices)))

    def test_large_parts(self):
        for source, board, on, parts, firsts, lamps in self.drawn(170, 60, ((9, 14), (9, 14))):
            for function in (count_come, count_ends):
                first, second = [function(*part) for part in parts]
                self.assertEqual(first * second, function(board, on))
            for function in (least_load, greatest_load):
                self.assertEqual(sum(function(*part) for part in parts), function(board, on))
            for function in (fewest_end, most_end):
                self.assertEqual(sum(len(function(*part)) for part in parts), len(function(board, on)))
            self.assertEqual(sum((fates(*part) for part in parts), ()), fates(board, on))
            self.assertEqual((0,) + self.shifted([never_blows(part) for part, _ in parts], firsts), never_blows(board))
            self.assertEqual(self.shifted([steady(part) for part, _ in parts], lamps), steady(board))
            first, second = [count_safe(part) for part, _ in parts]
            self.assertEqual(first * second, count_safe(board))
            self.assertEqual(sum(len(most_safe(part)) for part, _ in parts), len(most_safe(board)))
            heaviest = sum(loads(part, heaviest_safe(part), ())[0] for part, _ in parts)
            self.assertEqual(heaviest, loads(board, heaviest_safe(board), ())[0])
            blown = [some_end(source, *part) for part in parts]
            self.assertIs(True, is_end(board, on, self.shifted(blown, firsts)))
            blown = [some_set(source, len(part[0]), 0.2) for part, _ in parts]
            both = all(can_come(*part, row) for part, row in zip(parts, blown))
            self.assertIs(both, can_come(board, on, self.shifted(blown, firsts)))

    def test_stories(self):
        for source, board, _, parts, firsts, lamps in self.drawn(171, 80, ((8, 10), (8, 10))):
            story = plain.some_story(source, board, 40)
            told, sets = [], []
            for (part, _), first_lamp in zip(parts, lamps):
                mine = range(first_lamp, first_lamp + len(part[1]))
                at = [moment for moment, deed in enumerate(story) if deed == ("pause",) or deed[1] in mine]
                own = tuple(deed if deed == ("pause",) else (deed[0], deed[1] - first_lamp)
                            for deed in (story[moment] for moment in at))
                self.assertIsNone(story_error(part, own))
                blown = sum(plain.some_tale(source, part, own), ())
                sets.append(tuple(sorted(blown[:source.choice((20, 20, 20, 1))])))
                earliest = moments(part, own, sets[-1])
                told.append(earliest if earliest is None else tuple(at[moment] for moment in earliest))
            whole = None if None in told else told[0] + told[1]
            self.assertEqual(whole, moments(board, story, self.shifted(sets, firsts)))

    def test_small_parts(self):
        for source, board, on, parts, firsts, lamps in self.drawn(172, 60, ((3, 3), (2, 3))):
            ends = self.products([ends_by(*part, ()) for part in parts], firsts)
            self.assertEqual(ends, ends_by(board, on, ()))
            self.assertEqual(self.products([outcomes(*part) for part in parts], lamps), outcomes(board, on))
            self.assertEqual((0,) + self.shifted([spare(part) for part, _ in parts], firsts), spare(board))
            story = tuple(("on", lamp) for lamp in on) + (("pause",),) * source.randint(0, 1)
            own = [tuple(("on", lamp) for lamp in part_on) + story[len(on):] for _, part_on in parts]
            sets = [all_come(part, row) for (part, _), row in zip(parts, own)]
            self.assertEqual(self.products(sets, firsts), all_come(board, story))
            self.assertIs(all(is_guarded(part, ()) for part, _ in parts), is_guarded(board, ()))


class ByNameTest(unittest.TestCase):
    def outcome(self, function, told, named):
        try:
            return repr(function(*told, **named))
        except (ValueError, LookupError) as error:
            return repr((type(error), vars(error)))

    def passed(self, source, board, on):
        """Values for all arguments of the interface."""
        story = plain.some_story(source, board, source.randint(0, 12))
        seen = lit(board, on_after(board, story), ())
        other, _ = plain.some_board(source, source.randint(1, 6), len(board[1]))
        values = (board, on, story, (), (0,), None, [0], plain.some_tale(source, board, story), ((1, 0),),
                  board_text(board), story_text(story), Panel(board))
        return {
            "board": board, "on": on, "blown": some_end(source, board, on), "fuse": source.randrange(len(board[0])),
            "lamp": source.choice(on) if on else None, "value": source.choice(values), "bright": on[:1], "dark": on[2:],
            "story": story, "seen": seen, "speeds": plain.some_speeds(source, len(board[0]), 4), "other": other,
            "lots": (on, on[1:]),
        }

    def test_each_function(self):
        source = random.Random(180)
        for fuse_count in list(range(1, 8)) * 4 + [20]:
            board, on = plain.some_board(source, fuse_count, source.choice((0, 3, 6, 9)))
            for file, names in INTERFACE.items():
                module = importlib.import_module("firstfuse." + file[:-3])
                for name, arguments in names.items():
                    if file not in ("errors.py", "panels.py"):
                        told = self.passed(source, board, on)
                        if "lamp" not in arguments or on:
                            self.check(getattr(module, name), [(word, told[word]) for word in arguments])

    def check(self, function, told):
        kept = repr(told)
        by_position = self.outcome(function, [value for _, value in told], {})
        by_name = [
            self.outcome(function, (), dict(told)),
            self.outcome(function, (), dict(reversed(told))),
            self.outcome(function, [told[0][1]], dict(told[1:])),
        ]
        self.assertEqual([by_position] * 3, by_name, (function, told))
        self.assertEqual(by_position, self.outcome(function, [value for _, value in told], {}))
        self.assertEqual(kept, repr(told))

    def test_each_method(self):
        first, second = Panel(EXAMPLE), Panel(value=EXAMPLE)
        for name, argument, value in (
            ("put_on", "lamp", 0), ("put_on", "lamp", 2), ("put_on", "lamp", True), ("put_off", "lamp", 1),
            ("put_off", "lamp", 4), ("blow", "fuse", 1), ("blow", "fuse", 0), ("blow", "fuse", "0"),
            ("is_dark", "lamp", 0), ("is_dark", "lamp", 1), ("is_dark", "lamp", ()),
        ):
            by_position = self.outcome(getattr(first, name), (value,), {})
            self.assertEqual(by_position, self.outcome(getattr(second, name), (), {argument: value}))
            self.assertEqual(first, second)

    def test_each_error(self):
        module = importlib.import_module("firstfuse.errors")
        for name, arguments in INTERFACE["errors.py"].items():
            for word in arguments or []:
                for value in (None, 7, "x", (1, 2), [EXAMPLE]):
                    self.assertIs(value, getattr(getattr(module, name)(value), word))
                    self.assertIs(value, getattr(getattr(module, name)(**{word: value}), word))


class ValuesTest(unittest.TestCase):
    """All that is returned is made of tuples, integers, strings, True, False and None, at every depth."""

    def check(self, value):
        if type(value) is tuple:
            for item in value:
                self.check(item)
        else:
            self.assertIn(type(value), (int, str, bool, type(None), Panel), value)

    def test_each_function(self):
        source = random.Random(181)
        by_name = ByNameTest()
        for fuse_count in list(range(1, 8)) * 3 + [20]:
            board, on = plain.some_board(source, fuse_count, source.choice((1, 3, 6, 9)))
            for file, names in INTERFACE.items():
                module = importlib.import_module("firstfuse." + file[:-3])
                for name, arguments in names.items():
                    if file not in ("errors.py", "panels.py"):
                        told = by_name.passed(source, board, on)
                        if "lamp" not in arguments or on:
                            try:
                                self.check(getattr(module, name)(*[told[word] for word in arguments]))
                            except (ValueError, LookupError) as error:
                                self.check(tuple(vars(error).values()))

    def test_what_is_read_again(self):
        for _, board, _ in boards_of_all_sizes(182, 3):
            self.check(read_board(board_text(board)))
            panel = Panel(copy.deepcopy(board))
            self.check((panel.board, panel.on, panel.blown, panel.story, panel.tale, panel.version))

    def test_panels_among_the_values(self):
        # A panel is a result of the package, so it may be in any value.
        panel = Panel(EXAMPLE)
        for value in (panel, (panel,), (panel, panel), ((panel,), (panel,)), ("on", panel), (panel, 0), [panel]):
            self.assertIsNotNone(board_error(value))
            self.assertIs(False, can_come(EXAMPLE, (), value))
            self.assertIs(False, is_order(EXAMPLE, (), value))
            self.assertIs(False, is_end(EXAMPLE, (), value))
            self.assertEqual((None, "story") if type(value) is not tuple else (0, "deed"), story_error(EXAMPLE, value))
            self.assertEqual((0, "deed"), story_error(EXAMPLE, (value,)))
            self.assertIs(False, can_have_come(EXAMPLE, (), value))
            self.assertIs(False, is_tale(EXAMPLE, (("pause",),), value))
            self.assertIs(False, is_order_by(EXAMPLE, (), (), value))
            self.assertIsNotNone(speeds_error(EXAMPLE, value))
            self.assertRaises(ValueError, read_board, value)
            self.assertRaises(ValueError, read_story, EXAMPLE, value)
        self.assertRaises(TooGreat, speeds_error, (plain.chain(7), ()), panel)


if __name__ == "__main__":
    unittest.main()
