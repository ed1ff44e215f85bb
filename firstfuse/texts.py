"""Boards and stories as texts."""

from firstfuse.boards import board_error
from firstfuse.bounds import MAX_STORY
from firstfuse.errors import BadBoard, BadText
from firstfuse.stories import is_pause


def board_text(board):
    """The text of the board."""
    fuses, lamps = board
    first = f"fuse {fuses[0][1]}"
    others = [f"fuse {mark} on {above}" for above, mark in fuses[1:]]
    return "\n".join([first] + others + [f"lamp {draw} on {fuse}" for fuse, draw in lamps])


def story_text(story):
    """The text of the story."""
    return ", ".join([deed[0] if is_pause(deed) else f"{deed[0]} {deed[1]}" for deed in story])


def read_board(value):
    """The board whose text value is."""
    if not isinstance(value, str):
        raise BadText(-1)
    fuses = []
    lamps = []
    for index, line in enumerate(value.split("\n")):
        words = line.split(" ")
        if index == 0 and _is_first_line(words):
            fuses.append((-1, int(words[1])))
        elif lamps == [] and _is_line(words, "fuse", len(fuses)):
            fuses.append((int(words[3]), int(words[1])))
        elif _is_line(words, "lamp", len(fuses)):
            lamps.append((int(words[3]), int(words[1])))
        else:
            raise BadText(index)
    board = (tuple(fuses), tuple(lamps))
    error = board_error(board)
    if error is not None:
        raise BadBoard(error)
    return board


def _is_first_line(words):
    """Whether these are the words of the line of the first fuse."""
    return len(words) == 2 and words[0] == "fuse" and _is_number(words[1])


def _is_line(words, kind, count):
    """Whether these are the words of a line of this kind, on one of so many fuses."""
    if len(words) != 4 or words[0] != kind or words[2] != "on":
        return False
    return _is_number(words[1]) and _is_index(words[3], count)


def _is_number(word):
    """Whether the word is a number without leading noughts."""
    # Some signs that are no ASCII ones count as digits, too.
    return word.isascii() and word.isdigit() and (word == "0" or word[0] != "0")


def _is_index(word, count):
    """Whether the word is the index of one of so many items."""
    return _is_number(word) and int(word) < count


def read_story(board, value):
    """The story for the board whose text value is."""
    if not isinstance(value, str):
        raise BadText(-1)
    story = []
    # A story without deeds has no part, not one that is empty.
    parts = value.split(", ") if value != "" else []
    for index, part in enumerate(parts):
        words = part.split(" ")
        if part == "pause":
            story.append(("pause",))
        elif len(words) == 2 and words[0] in ("on", "off") and _is_index(words[1], len(board[1])):
            story.append((words[0], int(words[1])))
        else:
            raise BadText(index)
    if len(story) > MAX_STORY:
        raise BadText(MAX_STORY)
    return tuple(story)
