"""Promise [14], guarantee (e) of [1], and [2] as far as they concern panels."""

import copy
import random
import unittest

from firstfuse.bounds import MAX_EDITS
from firstfuse.errors import BadBoard, Full, NoFuse, NoLamp, NothingToRedo, NothingToUndo, NotStrained, TooEarly
from firstfuse.loads import lit, strained
from firstfuse.panels import Panel
from firstfuse.stories import can_have_come, is_tale, on_after
from firstfuse.texts import read_story, story_text
from tests import plain
from tests.plain import EXAMPLE, NO_FUSES, STORY, chain, marked, star

PAUSE = ("pause",)
PARTS = ("board", "on", "blown", "story", "tale", "version")
NO_INDEXES = (
    None, True, False, -1, 10 ** 39, -(10 ** 39), "", "0", "on", (), (0,), ((0,),), [], [0], {}, {0: 0}, ("on", 0), PAUSE,
)


def parts_of(panel):
    return tuple(getattr(panel, part) for part in PARTS)


class PlainPanel:
    """A panel by the document's words: a list of edits, gone through from the first one each time."""

    def __init__(self, board, base=((), ())):
        self.board, self.base, self.edits, self.taken = board, base, [], []

    def now(self):
        story, tale = self.base
        for word, number in self.edits:
            if word == "blow":
                tale = tale[:-1] + (tale[-1] + (number,),)
            else:
                story, tale = story + ((word,) if word == "pause" else (word, number),), tale + ((),)
        return story, tale

    def parts(self):
        story, tale = self.now()
        return (self.board, plain.lamps_on(story), tuple(sorted(sum(tale, ()))), story, tale, len(self.edits))

    def hot(self):
        _, on, blown, _, _, _ = self.parts()
        return plain.strained_fuses(self.board, on, blown)

    def fault(self, word, number):
        """The error that the edit is to raise, with its attributes; None if there is none."""
        story, _ = self.now()
        fuses, lamps = self.board
        if len(self.edits) >= 60 or (word != "blow" and len(story) >= 40):
            return (Full, {})
        if word in ("on", "off") and not (type(number) is int and 0 <= number < len(lamps)):
            return (NoLamp, {"lamp": number})
        if word == "blow" and not (type(number) is int and 0 <= number < len(fuses)):
            return (NoFuse, {"fuse": number})
        if word == "blow" and number not in self.hot():
            return (NotStrained, {"fuse": number})
        if word != "blow" and story and story[-1] == PAUSE and self.hot():
            return (TooEarly, {"fuses": self.hot()})
        return None

    def edit(self, word, number):
        self.edits.append((word, number))
        self.taken = []

    def undo(self):
        self.taken.append(self.edits.pop())

    def redo(self):
        self.edits.append(self.taken.pop())

    def twin(self):
        return PlainPanel(self.board, self.now())


def edit_of(panel, word, number):
    if word == "pause":
        return panel.pause()
    return {"on": panel.put_on, "off": panel.put_off, "blow": panel.blow}[word](number)


class PanelCase(unittest.TestCase):
    def check_raises(self, panel, error, attributes, function, *told):
        """The call is to raise this error with these attributes, and to change and forget nothing."""
        before = (parts_of(panel), repr(told))
        with self.assertRaises(error) as caught:
            function(*told)
        self.assertIs(error, type(caught.exception))
        for name, value in attributes.items():
            self.assertEqual(repr(value), repr(getattr(caught.exception, name)))
        self.assertEqual(before, (parts_of(panel), repr(told)))

    def check_parts(self, panel, board, story, tale, version):
        """All properties, methods and operators are to go along with these."""
        on, blown = plain.lamps_on(story), tuple(sorted(sum(tale, ())))
        self.assertEqual(repr((board, on, blown, story, tale, version)), repr(parts_of(panel)))
        lamps = plain.lit_lamps(board, on, blown)
        self.assertEqual(repr(lamps), repr(panel.lit()))
        self.assertEqual(repr(plain.strained_fuses(board, on, blown)), repr(panel.strained()))
        for lamp in range(len(board[1])):
            self.assertIs(lamp in on and lamp not in lamps, panel.is_dark(lamp))
        self.assertEqual(repr(len(story)), repr(len(panel)))
        self.assertEqual(story_text(story), str(panel))
        # Guarantee (e): the functions tell the same.
        self.assertEqual((on_after(board, story), lit(board, on, blown)), (panel.on, panel.lit()))
        self.assertEqual(strained(board, on, blown), panel.strained())
        if panel.strained() == () or story[-1] != PAUSE:
            self.assertIs(True, is_tale(board, story, tale))
            self.assertIs(True, can_have_come(board, story, blown))


class NewPanelTest(PanelCase):
    def test_a_new_panel(self):
        for board in (EXAMPLE, (((-1, 0),), ()), (marked(chain(20), [0] * 20), ((19, 100),) * 30)):
            panel = Panel(board)
            self.check_parts(panel, board, (), (), 0)
            self.assertEqual(((), (), False), (panel.lit(), panel.strained(), bool(len(panel))))
            self.assertEqual("", str(panel))

    def test_no_board(self):
        for value, error in (
            (None, (None, "board")),
            (7, (None, "board")),
            ([], (None, "board")),
            (list(EXAMPLE), (None, "board")),
            ((), (None, "board")),
            ((EXAMPLE[0],), (None, "board")),
            (((), ()), (None, "fuses")),
            ((list(EXAMPLE[0]), EXAMPLE[1]), (None, "fuses")),
            ((chain(21), ()), (None, "fuses")),
            ((((0, 6),), ()), (0, "fuse")),
            ((((-1, 6), (0, True)), ()), (1, "fuse")),
            ((chain(2), None), (None, "lamps")),
            ((chain(2), ((0, 1),) * 31), (None, "lamps")),
            ((chain(2), ((0, 1), (2, 1))), (1, "lamp")),
            (Panel(EXAMPLE), (None, "board")),
        ):
            with self.assertRaises(BadBoard) as caught:
                Panel(value)
            self.assertIs(BadBoard, type(caught.exception))
            self.assertEqual(repr(error), repr(caught.exception.error))
        self.assertRaises(BadBoard, Panel, value=None)
        self.assertEqual(EXAMPLE, Panel(value=EXAMPLE).board)

    def test_the_limit(self):
        self.assertEqual("60", repr(Panel.LIMIT))
        self.assertEqual(MAX_EDITS, Panel.LIMIT)
        self.assertEqual(MAX_EDITS, Panel(EXAMPLE).LIMIT)

    def test_properties_can_only_be_read(self):
        panel = Panel(EXAMPLE)
        panel.put_on(0)
        for name, value in zip(PARTS, (EXAMPLE, (1,), (0,), (), (), 3)):
            kept = parts_of(panel)
            with self.assertRaises(AttributeError):
                setattr(panel, name, value)
            with self.assertRaises(AttributeError):
                delattr(panel, name)
            self.assertEqual(kept, parts_of(panel))


class EditsTest(PanelCase):
    def test_the_example(self):
        panel = Panel(EXAMPLE)
        self.assertEqual("1", repr(panel.put_on(0)))
        self.assertEqual("2", repr(panel.put_on(2)))
        self.check_parts(panel, EXAMPLE, STORY[:2], ((), ()), 2)
        self.assertEqual((0,), panel.strained())
        self.assertEqual("3", repr(panel.pause()))
        self.assertEqual("4", repr(panel.blow(0)))
        self.check_parts(panel, EXAMPLE, STORY[:3], ((), (), (0,)), 4)
        self.assertIs(True, panel.is_dark(0))
        self.assertIs(False, panel.is_dark(1))
        self.assertEqual("5", repr(panel.put_on(1)))
        self.assertEqual("6", repr(panel.put_on(3)))
        self.assertEqual("7", repr(panel.pause()))
        self.check_parts(panel, EXAMPLE, STORY, ((), (), (0,), (), (), ()), 7)
        self.assertEqual("on 0, on 2, pause, on 1, on 3, pause", str(panel))
        self.assertEqual(6, len(panel))

    def test_lamps_put_on_and_off_again(self):
        panel = Panel(EXAMPLE)
        for version, (word, lamp, on) in enumerate((
            ("off", 3, ()), ("on", 3, (3,)), ("on", 3, (3,)), ("on", 0, (0, 3)), ("off", 3, (0,)), ("off", 3, (0,)),
        )):
            self.assertEqual(version + 1, edit_of(panel, word, lamp))
            self.assertEqual(on, panel.on)
            self.assertEqual((word, lamp), panel.story[-1])

    def test_fuses_blow_in_an_order(self):
        board = (marked(chain(3), (0, 0, 0)), ((0, 1), (1, 1), (2, 1)))
        panel = Panel(board)
        for lamp in (0, 1, 2):
            panel.put_on(lamp)
        panel.blow(2)
        panel.blow(1)
        panel.blow(0)
        self.check_parts(panel, board, (("on", 0), ("on", 1), ("on", 2)), ((), (), (2, 1, 0)), 6)
        self.assertEqual((0, 1, 2), panel.blown)
        panel.put_off(0)
        self.assertEqual(((), (), (2, 1, 0), ()), panel.tale)

    def test_arguments_that_are_no_indexes(self):
        panel = Panel(EXAMPLE)
        panel.put_on(0)
        for value in NO_INDEXES + NO_FUSES[1:]:
            if value in (0, 1) and type(value) is int:
                continue
            for function in (panel.put_on, panel.put_off, panel.is_dark):
                self.check_raises(panel, NoLamp, {"lamp": value}, function, value)
            self.check_raises(panel, NoFuse, {"fuse": value}, panel.blow, value)
        for function in (panel.put_on, panel.put_off, panel.is_dark):
            self.check_raises(panel, NoLamp, {"lamp": 4}, function, 4)
        self.assertEqual((2, 3, False), (panel.put_on(3), panel.put_off(3), panel.is_dark(3)))
        self.check_raises(panel, NoFuse, {"fuse": 3}, panel.blow, 3)
        self.check_raises(panel, NotStrained, {"fuse": 2}, panel.blow, 2)
        self.assertEqual((LookupError,), NoLamp.__bases__)
        self.assertEqual((LookupError,), NoFuse.__bases__)

    def test_a_panel_is_no_index(self):
        panel = Panel(EXAMPLE)
        with self.assertRaises(NoLamp) as caught:
            panel.put_on(panel)
        self.assertIs(panel, caught.exception.lamp)
        with self.assertRaises(NoFuse) as caught:
            panel.blow(panel)
        self.assertIs(panel, caught.exception.fuse)

    def test_not_strained(self):
        panel = Panel(EXAMPLE)
        for fuse in range(3):
            self.check_raises(panel, NotStrained, {"fuse": fuse}, panel.blow, fuse)
        for lamp in range(4):
            panel.put_on(lamp)
        self.check_raises(panel, NotStrained, {"fuse": 2}, panel.blow, 2)
        panel.blow(1)
        # What has blown, and what is relieved by it.
        for fuse in range(3):
            self.check_raises(panel, NotStrained, {"fuse": fuse}, panel.blow, fuse)

    def test_too_early(self):
        board = (marked(star(3), (9, 0, 0)), ((1, 1), (2, 1)))
        panel = Panel(board)
        panel.put_on(0)
        panel.put_on(1)
        # Without a pause nothing has to blow.
        self.assertEqual(3, panel.put_on(0))
        panel.pause()
        for told in ((panel.put_on, 0), (panel.put_off, 0), (panel.put_off, 1), (panel.pause,)):
            self.check_raises(panel, TooEarly, {"fuses": (1, 2)}, *told)
        # A lamp that there is none of stands ahead of it.
        self.check_raises(panel, NoLamp, {"lamp": 2}, panel.put_on, 2)
        self.check_raises(panel, NoLamp, {"lamp": True}, panel.put_off, True)
        self.check_raises(panel, NotStrained, {"fuse": 0}, panel.blow, 0)
        panel.blow(2)
        self.check_raises(panel, TooEarly, {"fuses": (1,)}, panel.pause)
        panel.blow(1)
        self.assertEqual(7, panel.pause())
        self.assertEqual(8, panel.put_off(0))
        self.check_parts(panel, board, (("on", 0), ("on", 1), ("on", 0), PAUSE, PAUSE, ("off", 0)),
                         ((), (), (), (2, 1), (), ()), 8)

    def test_a_pause_without_lamps(self):
        panel = Panel(EXAMPLE)
        self.assertEqual((1, 2), (panel.pause(), panel.pause()))
        self.assertEqual((PAUSE, PAUSE), panel.story)

    def test_forty_deeds(self):
        board = (marked(star(20), [9] + [0] * 19), tuple((1 + lamp % 19, 1) for lamp in range(30)))
        panel = Panel(board)
        for lamp in range(30):
            panel.put_on(lamp)
        for _ in range(9):
            panel.put_off(29)
        self.assertEqual(40, panel.put_on(29))
        for told in ((panel.put_on, 0), (panel.put_off, 0), (panel.pause,), (panel.put_on, None), (panel.put_off, 30)):
            self.check_raises(panel, Full, {}, *told)
        # Fuses go on to blow, as no deed is needed.
        self.check_raises(panel, NoFuse, {"fuse": 20}, panel.blow, 20)
        for fuse in range(1, 20):
            self.assertEqual(40 + fuse, panel.blow(fuse))
        self.check_raises(panel, NotStrained, {"fuse": 1}, panel.blow, 1)
        self.assertEqual(58, panel.undo())
        self.check_raises(panel, Full, {}, panel.pause)
        for _ in range(19):
            panel.undo()
        self.assertEqual((39, 39), (panel.version, len(panel)))
        self.assertEqual(40, panel.pause())
        # Full stands ahead of a pause that is not over.
        self.check_raises(panel, Full, {}, panel.pause)
        self.check_raises(panel, Full, {}, panel.put_on, 99)

    def test_no_more_than_sixty_edits(self):
        # There can be sixty only if there are forty deeds and twenty fuses blow; then Full stands ahead of all else.
        board = (marked(chain(20), [0] * 20), tuple((fuse, 1) for fuse in range(20)))
        panel = Panel(board)
        for lamp in range(20):
            panel.put_on(lamp)
        for _ in range(20):
            panel.put_on(0)
        for fuse in range(19, -1, -1):
            self.assertEqual(60 - fuse, panel.blow(fuse))
        for told in ((panel.blow, 0), (panel.blow, 99), (panel.blow, None), (panel.put_on, 0), (panel.put_on, None),
                     (panel.put_off, 20), (panel.pause,)):
            self.check_raises(panel, Full, {}, *told)
        self.check_parts(panel, board, panel.story, ((),) * 39 + (tuple(range(19, -1, -1)),), 60)
        # What is taken back makes room again, and what is done again takes it.
        self.assertEqual(59, panel.undo())
        self.check_raises(panel, NoFuse, {"fuse": 20}, panel.blow, 20)
        self.assertEqual(60, panel.redo())
        self.check_raises(panel, Full, {}, panel.blow, 0)
        self.assertEqual(59, panel.undo())
        self.assertEqual(60, panel.blow(0))
        self.check_raises(panel, NothingToRedo, {}, panel.redo)
        self.check_raises(panel, Full, {}, panel.blow, 0)
        # The edits of a twin are counted from 0, its deeds are not.
        twin = panel.twin()
        self.check_raises(twin, Full, {}, twin.pause)
        self.check_raises(twin, NotStrained, {"fuse": 0}, twin.blow, 0)


class UndoTest(PanelCase):
    def test_undo_and_redo(self):
        panel = Panel(EXAMPLE)
        self.check_raises(panel, NothingToUndo, {}, panel.undo)
        self.check_raises(panel, NothingToRedo, {}, panel.redo)
        seen = [parts_of(panel)]
        for word, number in (("on", 0), ("on", 2), ("blow", 0), ("pause", None), ("off", 0)):
            edit_of(panel, word, number)
            seen.append(parts_of(panel))
        self.check_raises(panel, NothingToRedo, {}, panel.redo)
        for _ in range(2):
            for version in range(4, -1, -1):
                self.assertEqual(repr(version), repr(panel.undo()))
                self.assertEqual(seen[version], parts_of(panel))
            self.check_raises(panel, NothingToUndo, {}, panel.undo)
            for version in range(1, 6):
                self.assertEqual(repr(version), repr(panel.redo()))
                self.assertEqual(seen[version], parts_of(panel))
            self.check_raises(panel, NothingToRedo, {}, panel.redo)

    def test_an_edit_forgets_what_was_taken_back(self):
        for word, number in (("on", 3), ("off", 0), ("pause", None), ("blow", 0)):
            panel = Panel(EXAMPLE)
            for lamp in range(4):
                panel.put_on(lamp)
            panel.undo()
            self.assertEqual(4, edit_of(panel, word, number))
            self.check_raises(panel, NothingToRedo, {}, panel.redo)
            self.assertEqual(3, panel.undo())
            self.assertEqual(4, panel.redo())
            self.assertEqual((word, number) == ("blow", 0), panel.blown == (0,))

    def test_errors_forget_nothing(self):
        panel = Panel(EXAMPLE)
        panel.put_on(0)
        panel.put_on(2)
        panel.pause()
        panel.blow(0)
        panel.put_off(0)
        panel.undo()
        panel.undo()
        self.check_raises(panel, TooEarly, {"fuses": (0,)}, panel.put_on, 1)
        self.check_raises(panel, NoLamp, {"lamp": 4}, panel.put_on, 4)
        self.check_raises(panel, NoFuse, {"fuse": 4}, panel.blow, 4)
        self.check_raises(panel, NotStrained, {"fuse": 1}, panel.blow, 1)
        self.check_raises(panel, NoLamp, {"lamp": 4}, panel.is_dark, 4)
        self.assertEqual(4, panel.redo())
        self.assertEqual((0,), panel.blown)
        self.assertEqual(5, panel.redo())
        self.assertEqual((2,), panel.on)
        self.check_raises(panel, NothingToRedo, {}, panel.redo)
        for _ in range(5):
            panel.undo()
        self.check_raises(panel, NothingToUndo, {}, panel.undo)
        self.assertEqual(1, panel.redo())

    def test_reading_and_twins_forget_nothing(self):
        panel = Panel(EXAMPLE)
        panel.put_on(0)
        panel.put_on(1)
        panel.undo()
        panel.twin().put_on(2)
        panel.lit()
        panel.strained()
        panel.is_dark(0)
        self.assertEqual((panel, "on 0", 1), (panel.twin(), str(panel), len(panel)))
        self.assertEqual(2, panel.redo())
        self.assertEqual((("on", 0), ("on", 1)), panel.story)


class TwinTest(PanelCase):
    def test_a_twin(self):
        panel = Panel(EXAMPLE)
        for lamp in range(4):
            panel.put_on(lamp)
        panel.blow(0)
        panel.put_off(3)
        panel.undo()
        twin = panel.twin()
        self.assertIs(Panel, type(twin))
        self.assertIsNot(panel, twin)
        self.check_parts(twin, EXAMPLE, panel.story, panel.tale, 0)
        self.check_raises(twin, NothingToUndo, {}, twin.undo)
        self.check_raises(twin, NothingToRedo, {}, twin.redo)
        # It goes on from there, and the other one is left as it was.
        kept = parts_of(panel)
        self.assertEqual(1, twin.put_off(0))
        self.assertEqual(kept, parts_of(panel))
        self.check_parts(twin, EXAMPLE, panel.story + (("off", 0),), panel.tale + ((),), 1)
        self.assertEqual(0, twin.undo())
        self.check_raises(twin, NothingToUndo, {}, twin.undo)
        self.assertEqual(6, panel.redo())
        self.check_parts(twin, EXAMPLE, kept[3], kept[4], 0)

    def test_a_twin_blows_behind_the_last_deed_of_the_other(self):
        panel = Panel(EXAMPLE)
        for lamp in range(4):
            panel.put_on(lamp)
        twin = panel.twin()
        self.assertEqual(1, twin.blow(1))
        self.assertEqual(((), (), (), (1,)), twin.tale)
        self.assertEqual(((), (), (), ()), panel.tale)
        panel.pause()
        twin = panel.twin()
        self.check_raises(twin, TooEarly, {"fuses": (0, 1)}, twin.pause)

    def test_a_twin_has_sixty_edits_of_its_own(self):
        board = (marked(chain(20), [0] * 20), tuple((fuse, 1) for fuse in range(20)))
        panel = Panel(board)
        for lamp in range(20):
            panel.put_on(lamp)
        for fuse in range(19, -1, -1):
            panel.blow(fuse)
        twin = panel.twin().twin()
        for version in range(1, 21):
            self.assertEqual(version, twin.pause())
        self.check_raises(twin, Full, {}, twin.pause)
        self.assertEqual((20, 40), (twin.version, panel.version))

    def test_panels_do_not_change_one_another(self):
        first, second = Panel(EXAMPLE), Panel(EXAMPLE)
        first.put_on(0)
        self.assertEqual(((), 0), (second.story, second.version))
        second.put_on(1)
        second.put_on(2)
        self.assertEqual(((("on", 0),), 1), (first.story, first.version))
        second.undo()
        self.check_raises(first, NothingToRedo, {}, first.redo)
        self.assertEqual((("on", 0),), first.story)

    def test_what_was_returned_does_not_change(self):
        panel = Panel(EXAMPLE)
        panel.put_on(0)
        panel.put_on(2)
        kept = parts_of(panel) + (panel.lit(), panel.strained())
        copied = copy.deepcopy(kept)
        panel.blow(0)
        panel.put_off(0)
        panel.undo()
        self.assertEqual(repr(copied), repr(kept))


class OperatorsTest(PanelCase):
    def test_equal_panels(self):
        first, second = Panel(EXAMPLE), Panel(copy.deepcopy(EXAMPLE))
        for word, number in (("on", 0), ("on", 2), ("pause", None), ("blow", 0)):
            self.assertIs(True, first == second)
            self.assertIs(False, first != second)
            edit_of(first, word, number)
            self.assertIs(False, first == second)
            self.assertIs(True, first != second)
            edit_of(second, word, number)
        self.assertIs(True, first == first)
        self.assertIs(False, first != first)
        # The edits are of no weight, only what has come of them.
        first.put_on(1)
        first.undo()
        self.assertIs(True, first == second)
        self.assertIs(True, first.twin() == second)
        self.assertIs(False, second.twin() != first)

    def test_unlike_boards_stories_and_tales(self):
        other = (marked(EXAMPLE[0], (6, 4, 6)), EXAMPLE[1])
        self.assertIs(False, Panel(EXAMPLE) == Panel(other))
        self.assertIs(True, Panel(EXAMPLE) != Panel(other))
        first, second = Panel(EXAMPLE), Panel(EXAMPLE)
        first.put_on(0)
        second.put_on(1)
        self.assertIs(False, first == second)
        first.put_off(1)
        second.put_off(0)
        self.assertIs(False, first == second)
        # The same fuses blown behind the same deeds, but not behind the same one, or in another order.
        board = (marked(star(3), (9, 0, 0)), ((1, 1), (2, 1)))
        panels = [Panel(board) for _ in range(3)]
        for panel, edits in zip(panels, (
            (("on", 0), ("blow", 1), ("on", 1), ("blow", 2)),
            (("on", 0), ("on", 1), ("blow", 1), ("blow", 2)),
            (("on", 0), ("on", 1), ("blow", 2), ("blow", 1)),
        )):
            for word, number in edits:
                edit_of(panel, word, number)
            self.assertEqual(((1, 2), (0, 1), (("on", 0), ("on", 1))), (panel.blown, panel.on, panel.story))
        for panel in panels:
            for second in panels:
                self.assertIs(panel is second, panel == second)
                self.assertIs(panel is not second, panel != second)

    def test_any_values(self):
        panel = Panel(EXAMPLE)
        for value in NO_INDEXES + NO_FUSES + (EXAMPLE, list(EXAMPLE), STORY, (), "", 0, [panel], (panel,), {0: panel}, Panel):
            self.assertIs(False, panel == value)
            self.assertIs(True, panel != value)
            self.assertIs(False, value == panel)
            self.assertIs(True, value != panel)
        self.assertEqual([panel], [Panel(EXAMPLE)])
        self.assertIn(panel, (None, Panel(EXAMPLE)))

    def test_length_and_text(self):
        panel = Panel(EXAMPLE)
        self.assertEqual((0, ""), (len(panel), str(panel)))
        for number, deed in enumerate(STORY):
            if deed == STORY[3]:
                panel.blow(0)
            edit_of(panel, deed[0], deed[-1])
            self.assertEqual(number + 1, len(panel))
            self.assertEqual(story_text(STORY[:number + 1]), str(panel))
            self.assertEqual(panel.story, read_story(EXAMPLE, str(panel)))
        panel.undo()
        self.assertEqual(5, len(panel))

    def test_passed_by_name(self):
        panel = Panel(value=EXAMPLE)
        self.assertEqual(1, panel.put_on(lamp=0))
        self.assertEqual(2, panel.put_on(lamp=2))
        self.assertEqual(3, panel.put_off(lamp=1))
        self.assertEqual(4, panel.blow(fuse=0))
        self.assertIs(True, panel.is_dark(lamp=0))
        self.assertRaises(NoLamp, panel.put_on, lamp="0")


class DrawnEditsTest(PanelCase):
    def check_edit(self, source, panel, model):
        word = source.choice(("on",) * 5 + ("off", "pause") + ("blow",) * 4)
        fuses, lamps = model.board
        count = len(fuses) if word == "blow" else len(lamps)
        number = source.randrange(-1, count + 1) if source.random() < 0.2 else source.randrange(max(1, count))
        if source.random() < 0.05:
            number = source.choice(NO_INDEXES)
        if word == "blow" and model.hot() and source.random() < 0.7:
            number = source.choice(model.hot())
        fault = model.fault(word, number)
        if fault is None:
            model.edit(word, number)
            self.assertEqual(len(model.edits), edit_of(panel, word, number))
        else:
            self.check_raises(panel, *fault, edit_of, panel, word, number)
        return fault and fault[0]

    def check_step_back(self, panel, model, name, rest, error):
        """undo, or redo, with the edits that it is for."""
        if rest:
            getattr(model, name)()
            self.assertEqual(len(model.edits), getattr(panel, name)())
        else:
            self.check_raises(panel, error, {}, getattr(panel, name))

    def test_drawn_edits(self):
        source = random.Random(140)
        seen = set()
        for length in [30] * 60 + [120] * 30:
            board, _ = plain.some_board(source, source.randint(1, 20), source.randint(0, 30))
            panel, model = Panel(board), PlainPanel(board)
            back = source.choice((0.05, 0.3))
            for _ in range(length):
                drawn = source.random()
                if drawn < back:
                    self.check_step_back(panel, model, "undo", model.edits, NothingToUndo)
                elif drawn < 2 * back:
                    self.check_step_back(panel, model, "redo", model.taken, NothingToRedo)
                elif drawn > 0.99:
                    panel, model = panel.twin(), model.twin()
                else:
                    seen.add(self.check_edit(source, panel, model))
                self.assertEqual(repr(model.parts()), repr(parts_of(panel)))
            story, tale = model.now()
            self.check_parts(panel, board, story, tale, len(model.edits))
        self.assertEqual({None, Full, NoLamp, NoFuse, NotStrained, TooEarly}, seen)


if __name__ == "__main__":
    unittest.main()
