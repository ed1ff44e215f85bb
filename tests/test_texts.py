"""Promise [13], and [2] as far as it concerns texts."""

import copy
import random
import unittest

from firstfuse.boards import board_error
from firstfuse.errors import BadBoard, BadText, FuseError
from firstfuse.texts import board_text, read_board, read_story, story_text
from tests import plain
from tests.plain import EXAMPLE, STORY, chain

EXAMPLE_TEXT = "fuse 6\nfuse 4 on 0\nfuse 5 on 0\nlamp 3 on 1\nlamp 2 on 1\nlamp 4 on 2\nlamp 1 on 0"
STORY_TEXT = "on 0, on 2, pause, on 1, on 3, pause"
NO_STRINGS = (
    None, True, False, 0, 1, -1, 10 ** 39, (), ("fuse 6",), ("pause",), [], ["fuse 6"], ["pause"], {}, {"fuse 6": 0},
    EXAMPLE, STORY, (None, "board"), ("",),
)
# What may not stand in place of a number.
NO_NUMBERS = (
    "", "00", "01", "007", "-1", "-0", "+1", "1.0", "1,0", "1_0", "0x1", "1e2", "x", "one", "None", "True", "(1)", " 1",
    "1 ", "1\t", "'1'", "-", "0-1", "0 0",
)


class TextCase(unittest.TestCase):
    def check_bad(self, line, function, *told):
        with self.assertRaises(BadText) as caught:
            function(*told)
        self.assertIs(BadText, type(caught.exception))
        self.assertEqual(repr(line), repr(caught.exception.line), told)

    def check_bad_board(self, error, text):
        with self.assertRaises(BadBoard) as caught:
            read_board(text)
        self.assertIs(BadBoard, type(caught.exception))
        self.assertEqual(repr(error), repr(caught.exception.error), text)


class BoardTextTest(TextCase):
    def test_the_example(self):
        self.assertTrue(board_text(EXAMPLE).startswith("fuse 6\nfuse 4 on 0\nfuse 5 on 0\nlamp 3 on 1"))
        self.assertEqual(EXAMPLE_TEXT, board_text(EXAMPLE))
        self.assertEqual(repr(EXAMPLE), repr(read_board(EXAMPLE_TEXT)))

    def test_small_and_great_boards(self):
        for board, text in (
            ((((-1, 0),), ()), "fuse 0"),
            ((((-1, 3000),), ((0, 100),)), "fuse 3000\nlamp 100 on 0"),
            ((((-1, 10), (0, 20)), ()), "fuse 10\nfuse 20 on 0"),
            ((((-1, 10), (0, 20), (1, 30)), ((2, 1),)), "fuse 10\nfuse 20 on 0\nfuse 30 on 1\nlamp 1 on 2"),
        ):
            self.assertEqual(text, board_text(board))
            self.assertEqual(repr(board), repr(read_board(text)))
        board = (chain(20), ((19, 7),) * 30)
        lines = ["fuse 9"] + [f"fuse 9 on {fuse}" for fuse in range(19)] + ["lamp 7 on 19"] * 30
        self.assertEqual("\n".join(lines), board_text(board))
        self.assertEqual(board, read_board("\n".join(lines)))

    def test_drawn_boards(self):
        source = random.Random(130)
        for _ in range(200):
            board, _ = plain.some_board(source, source.randint(1, 20), source.randint(0, 30))
            text = board_text(board)
            self.assertIs(str, type(text))
            self.assertEqual(repr(board), repr(read_board(text)))
            self.assertEqual(text, board_text(read_board(text)))


class ReadBoardTest(TextCase):
    def test_no_string(self):
        for value in NO_STRINGS:
            kept = copy.deepcopy(value)
            self.check_bad(-1, read_board, value)
            self.assertEqual(repr(kept), repr(value))
        self.assertEqual((FuseError,), BadText.__bases__)

    def test_the_first_line(self):
        for text in (
            "", " ", "\n", "fuse", "fuse ", "fuse  6", " fuse 6", "fuse 6 ", "Fuse 6", "FUSE 6", "fuses 6", "6", "lamp 6",
            "fuse 6 on", "fuse 6 on ", "fuse 6 on 0", "fuse 6 on -1", "fuse 6 0", "lamp 3 on 0", "\nfuse 6", "fuse\n6",
            "fuse\t6", "fuse 6, fuse 5 on 0", "board", "pause", "on 3", "fuse on 6", "fuse 6 6",
        ):
            self.check_bad(0, read_board, text)
            self.check_bad(0, read_board, text + "\nfuse 4 on 0")
        for word in NO_NUMBERS:
            self.check_bad(0, read_board, "fuse " + word)

    def test_signs_that_count_as_digits_elsewhere(self):
        for word in ("\u00b2", "\u0663", "1\u0663"):
            self.check_bad(0, read_board, "fuse " + word)
            self.check_bad(0, read_story, EXAMPLE, "on " + word)

    def test_another_line_of_a_fuse(self):
        for line in (
            "fuse 4", "fuse 4 on", "fuse 4 on ", "fuse 4  on 0", "fuse 4 on  0", "fuse 4 on 0 ", " fuse 4 on 0", "fuse 4 0",
            "fuse 4 at 0", "fuse 4 On 0", "fuse on 0", "fuse on 4 0", "fuse 4 on 0 on 0", "fuse 4 on -1", "fuse 4 on 1",
            "fuse 4 on 2", "fuse 4 on 20", "Fuse 4 on 0", "4 on 0", "fuse 4 on 0, ", "fuse 4 on 99999999999999999999",
        ):
            self.check_bad(1, read_board, "fuse 6\n" + line)
            self.check_bad(1, read_board, "fuse 6\n" + line + "\nfuse 5 on 0\nx")
        for word in NO_NUMBERS:
            self.check_bad(1, read_board, f"fuse 6\nfuse {word} on 0")
            self.check_bad(1, read_board, f"fuse 6\nfuse 4 on {word}")

    def test_a_line_of_a_lamp(self):
        for line in (
            "lamp 3", "lamp 3 on", "lamp 3 on ", "lamp 3 on 2", "lamp 3 on 3", "lamp 3 on -1", "lamp 3  on 0", "lamp 3 on  0",
            "lamp 3 on 0 ", " lamp 3 on 0", "Lamp 3 on 0", "lamp 3 off 0", "lamp 3 0", "lamp on 0", "lamp 3 on 0 0", "3 on 0",
            "lamps 3 on 0", "lamp 3 on 0, lamp 3 on 0", "lamp 3 on 99999999999999999999",
        ):
            self.check_bad(2, read_board, "fuse 6\nfuse 4 on 0\n" + line)
            self.check_bad(3, read_board, "fuse 6\nfuse 4 on 0\nlamp 3 on 1\n" + line + "\n")
        for word in NO_NUMBERS:
            self.check_bad(1, read_board, f"fuse 6\nlamp {word} on 0")
            self.check_bad(1, read_board, f"fuse 6\nlamp 3 on {word}")

    def test_indexes_of_fuses_ahead(self):
        for count in range(1, 12):
            text = "\n".join(["fuse 6"] + ["fuse 6 on 0"] * (count - 1))
            for kind in ("fuse", "lamp"):
                self.assertEqual(count - 1, read_board(f"{text}\n{kind} 5 on {count - 1}")[kind == "lamp"][-1][0])
                self.check_bad(count, read_board, f"{text}\n{kind} 5 on {count}")
                self.check_bad(count, read_board, f"{text}\n{kind} 5 on {count + 1}")

    def test_a_fuse_behind_a_lamp(self):
        self.check_bad(2, read_board, "fuse 6\nlamp 3 on 0\nfuse 4 on 0")
        self.check_bad(2, read_board, "fuse 6\nlamp 3 on 0\nfuse 4")
        self.check_bad(3, read_board, "fuse 6\nlamp 3 on 0\nlamp 3 on 0\nfuse 4 on 0\nlamp 3 on 1")
        # A lamp whose fuse stands only behind it is found ahead of that fuse.
        self.check_bad(1, read_board, "fuse 6\nlamp 3 on 1\nfuse 4 on 0")

    def test_empty_lines(self):
        self.check_bad(1, read_board, "fuse 6\n")
        self.check_bad(1, read_board, "fuse 6\n\nlamp 3 on 0")
        self.check_bad(7, read_board, EXAMPLE_TEXT + "\n")
        self.check_bad(0, read_board, "\n" + EXAMPLE_TEXT)
        self.check_bad(1, read_board, "fuse 6\n \nlamp 3 on 0")
        self.check_bad(0, read_board, "\n\n\n")

    def test_the_first_bad_line_of_several(self):
        self.check_bad(1, read_board, "fuse 6\nfuse\nlamp\nfuse")
        self.check_bad(0, read_board, "fuse 06\nfuse\nlamp")
        self.check_bad(2, read_board, "fuse 6\nfuse 5 on 0\nlamp 3 on 5\nlamp 3 on 6")

    def test_each_line_of_a_text_spoiled(self):
        lines = EXAMPLE_TEXT.split("\n")
        for index, line in enumerate(lines):
            for bad in ("", line + " ", " " + line, line + "x", line[1:], line.replace(" ", "  "), line.upper(), "lamp"):
                self.check_bad(index, read_board, "\n".join(lines[:index] + [bad] + lines[index + 1:]))
        for index in range(1, 7):
            self.check_bad(index, read_board, "\n".join(lines[:index] + ["fuse 6"] + lines[index + 1:]))

    def test_no_board(self):
        for error, text in (
            ((0, "fuse"), "fuse 3001"),
            ((0, "fuse"), "fuse " + "9" * 1500),
            ((1, "fuse"), "fuse 3000\nfuse 3001 on 0"),
            ((2, "fuse"), "fuse 3000\nfuse 0 on 0\nfuse 4000 on 1\nfuse 4000 on 1"),
            ((0, "lamp"), "fuse 6\nlamp 0 on 0"),
            ((0, "lamp"), "fuse 6\nlamp 101 on 0"),
            ((1, "lamp"), "fuse 6\nlamp 100 on 0\nlamp 0 on 0\nlamp 101 on 0"),
            ((1, "fuse"), "fuse 6\nfuse 3001 on 0\nlamp 0 on 0"),
            ((None, "fuses"), "\n".join(["fuse 6"] + ["fuse 6 on 0"] * 20)),
            ((None, "fuses"), "\n".join(["fuse 6"] + ["fuse 3001 on 0"] * 20 + ["lamp 0 on 0"] * 31)),
            ((None, "lamps"), "\n".join(["fuse 6"] + ["lamp 3 on 0"] * 31)),
            ((None, "lamps"), "\n".join(["fuse 6"] + ["lamp 0 on 0"] * 31)),
        ):
            self.check_bad_board(error, text)
        # At the edges there are boards.
        self.assertIsNone(board_error(read_board("\n".join(["fuse 6"] + ["fuse 6 on 0"] * 19 + ["lamp 3 on 19"] * 30))))
        self.assertEqual((((-1, 0),), ((0, 1),)), read_board("fuse 0\nlamp 1 on 0"))

    def test_a_bad_line_stands_ahead_of_no_board(self):
        self.check_bad(1, read_board, "fuse 3001\nfuse 6")
        self.check_bad(31, read_board, "\n".join(["fuse 6"] + ["lamp 0 on 0"] * 30 + ["lamp 0 on 1"]))
        self.check_bad(21, read_board, "\n".join(["fuse 6"] + ["fuse 6 on 0"] * 20 + ["fuse 6"]))

    def test_what_is_read_is_the_text_of_it(self):
        source = random.Random(131)
        lines = ("fuse 6", "fuse 5 on 0", "fuse 0 on 1", "lamp 3 on 0", "lamp 1 on 1", "lamp 3", "fuse 05 on 0", "")
        read = 0
        for _ in range(2000):
            text = "\n".join(["fuse 7"] + [source.choice(lines) for _ in range(source.randint(0, 3))])
            try:
                board = read_board(text)
            except BadText:
                continue
            read += 1
            self.assertEqual(text, board_text(board))
        self.assertGreater(read, 100)


class StoryTextTest(TextCase):
    def test_stories(self):
        for story, text in (
            ((), ""),
            ((("pause",),), "pause"),
            ((("on", 3),), "on 3"),
            ((("off", 3),), "off 3"),
            ((("on", 3), ("off", 3), ("pause",)), "on 3, off 3, pause"),
            (STORY, STORY_TEXT),
        ):
            self.assertEqual(text, story_text(story))
            self.assertEqual(repr(story), repr(read_story(EXAMPLE, text)))

    def test_drawn_stories(self):
        source = random.Random(132)
        for _ in range(200):
            board, _ = plain.some_board(source, 3, source.randint(0, 30))
            story = plain.some_story(source, board, source.randint(0, 40))
            text = story_text(story)
            self.assertIs(str, type(text))
            self.assertEqual(repr(story), repr(read_story(board, text)))

    def test_no_string(self):
        for value in NO_STRINGS:
            kept = copy.deepcopy(value)
            self.check_bad(-1, read_story, EXAMPLE, value)
            self.assertEqual(repr(kept), repr(value))

    def test_no_deed(self):
        for part in (
            " ", "on", "off", "on ", "on  3", " on 3", "on 3 ", "On 3", "ON 3", "Pause", "pause ", " pause", "pause 0", "3",
            "pauses", "on 4", "off 4", "on 30", "on 3 on 3", "on 3,", ",", ", ", "on 3;off 3", "on 3,off 3", "blow 0", "fuse 6",
            "on 3\n", "on 3\noff 3", "on\t3", "on on", "off off", "on 99999999999999999999",
        ) + tuple("on " + word for word in NO_NUMBERS) + tuple("off " + word for word in NO_NUMBERS):
            self.check_bad(0, read_story, EXAMPLE, part)
            self.check_bad(1, read_story, EXAMPLE, "pause, " + part)
            self.check_bad(2, read_story, EXAMPLE, "pause, on 3, " + part + ", on 4")

    def test_empty_parts(self):
        self.assertEqual((), read_story(EXAMPLE, ""))
        self.check_bad(0, read_story, EXAMPLE, ", ")
        self.check_bad(0, read_story, EXAMPLE, ", pause")
        self.check_bad(1, read_story, EXAMPLE, "pause, ")
        self.check_bad(1, read_story, EXAMPLE, "pause, , pause")

    def test_lamps_are_those_of_the_board(self):
        for count in range(31):
            board = (chain(2), ((1, 1),) * count)
            for word in ("on", "off"):
                for lamp in (0, count - 1, count, count + 1, 30):
                    text = f"pause, {word} {lamp}"
                    if 0 <= lamp < count:
                        self.assertEqual((("pause",), (word, lamp)), read_story(board, text))
                    else:
                        self.check_bad(1, read_story, board, text)

    def test_forty_deeds_and_more(self):
        for part, deed in (("pause", ("pause",)), ("on 3", ("on", 3)), ("off 0", ("off", 0))):
            self.assertEqual((deed,) * 40, read_story(EXAMPLE, ", ".join([part] * 40)))
            for count in (41, 42, 100):
                self.check_bad(40, read_story, EXAMPLE, ", ".join([part] * count))
            # A part that is no deed stands ahead of this, wherever it is.
            for at in (0, 39, 40, 41, 50):
                parts = [part] * at + ["on 4"] + [part] * (50 - at)
                self.check_bad(at, read_story, EXAMPLE, ", ".join(parts))

    def test_passed_by_name_and_left_as_it_was(self):
        kept = copy.deepcopy((EXAMPLE, STORY))
        self.assertEqual(EXAMPLE_TEXT, board_text(board=EXAMPLE))
        self.assertEqual(STORY_TEXT, story_text(story=STORY))
        self.assertEqual(EXAMPLE, read_board(value=EXAMPLE_TEXT))
        self.assertEqual(STORY, read_story(board=EXAMPLE, value=STORY_TEXT))
        self.assertEqual(repr(kept), repr((EXAMPLE, STORY)))


if __name__ == "__main__":
    unittest.main()
