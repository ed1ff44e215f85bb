"""Stories: lamps are put on and off, with pauses, and fuses blow meanwhile."""

from firstfuse.boards import fuses_behind
from firstfuse.bounds import MAX_STORY
from firstfuse.checks import are_ascending, are_unlike, is_integer, is_pair, is_row
from firstfuse.coming import can_follow
from firstfuse.loads import at_rest, load


def story_error(board, value):
    """None for a story; otherwise the first fault, as (index or None, word)."""
    if not is_row(value, 0, MAX_STORY):
        return (None, "story")
    for index, item in enumerate(value):
        if not _is_deed(board, item):
            return (index, "deed")
    return None


def _is_deed(board, item):
    """Whether item is a deed of a story for the board."""
    if is_pair(item):
        word, lamp = item
        return word in ("on", "off") and is_integer(lamp, 0, len(board[1]) - 1)
    return is_row(item, 1, 1) and is_pause(item)


def is_pause(deed):
    """Whether the deed is a pause."""
    return deed[0] == "pause"


def on_after(board, story):
    """The ascending tuple of the lamps that are on behind the story."""
    burns = [False] * len(board[1])
    for deed in story:
        if not is_pause(deed):
            word, lamp = deed
            burns[lamp] = word == "on"
    return tuple([lamp for lamp, is_on in enumerate(burns) if is_on])


def on_at_moments(board, story):
    """The list of the lamps that are on at each moment, in order."""
    return [on_after(board, story[:moment + 1]) for moment in range(len(story))]


def moments(board, story, blown):
    """For each of the blown fuses the earliest moment at which it can have blown; None if they cannot have come."""
    ons = on_at_moments(board, story)
    earliest = {}
    # Fuses behind another one have greater indexes, and have to blow ahead of it.
    for fuse in reversed(blown):
        moment = _first_strained(board, ons, earliest, fuse)
        if moment is None:
            return None
        earliest[fuse] = moment
    if not _pauses_end(board, story, ons, earliest):
        return None
    return tuple([earliest[fuse] for fuse in blown])


def _first_strained(board, ons, earliest, fuse):
    """The first moment at which the fuse is strained and those behind it have blown; None if there is none."""
    behind = fuses_behind(board, fuse)
    start = max([first for other, first in earliest.items() if other in behind], default=0)
    gone = tuple(earliest)
    for moment in range(start, len(ons)):
        if load(board, ons[moment], gone, fuse) > board[0][fuse][1]:
            return moment
    return None


def _pauses_end(board, story, ons, earliest):
    """Whether each pause of the story can end, if the fuses blow as early as they can."""
    # In any run with the same fuses no more of them are blown at a pause, so no less is strained.
    for moment, deed in enumerate(story):
        gone = tuple([fuse for fuse, first in earliest.items() if first <= moment])
        if is_pause(deed) and not at_rest(board, ons[moment], gone):
            return False
    return True


def can_have_come(board, story, value):
    """Whether value is an ascending tuple of fuses that can have come by the story."""
    return are_ascending(value, len(board[0])) and moments(board, story, value) is not None


def is_tale(board, story, value):
    """Whether value tells for each deed which fuses blow behind it, in an order in which they can."""
    if not is_row(value, len(story), len(story)):
        return False
    blown = ()
    for deed, on, row in zip(story, on_at_moments(board, story), value):
        if not are_unlike(row, len(board[0])) or not can_follow(board, on, blown, row):
            return False
        blown = blown + row
        if is_pause(deed) and not at_rest(board, on, blown):
            return False
    return True


def tale_for(board, story, blown):
    """A tale after which just the blown fuses are blown; None if there is none."""
    earliest = moments(board, story, blown)
    if earliest is None:
        return None
    tale = []
    for moment in range(len(story)):
        row = [fuse for fuse, first in zip(blown, earliest) if first == moment]
        # Of those that blow behind one deed, too, those behind another one go ahead of it.
        tale.append(tuple(reversed(row)))
    return tuple(tale)
