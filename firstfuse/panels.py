"""Panels: stories in the making."""

from firstfuse.boards import board_error
from firstfuse.bounds import MAX_STORY
from firstfuse.checks import is_integer
from firstfuse.errors import BadBoard, Full, NoFuse, NoLamp, NothingToRedo, NothingToUndo, NotStrained, TooEarly
from firstfuse.loads import lit, strained
from firstfuse.stories import is_pause, on_after
from firstfuse.texts import story_text


class Panel:
    """A board, the deeds that are done to it, and the fuses that blow behind them."""

    # This is MAX_EDITS of firstfuse.bounds.
    LIMIT = 60

    def __init__(self, value):
        error = board_error(value)
        if error is not None:
            raise BadBoard(error)
        self._board = value
        # The pairs (story, tale): the first one is there without an edit, then each one is an edit's.
        self._states = [((), ())]
        self._version = 0

    @property
    def board(self):
        """The board."""
        return self._board

    @property
    def on(self):
        """The ascending tuple of the lamps that are on."""
        return on_after(self._board, self.story)

    @property
    def blown(self):
        """The ascending tuple of the fuses that are blown."""
        return tuple(sorted([fuse for row in self.tale for fuse in row]))

    @property
    def story(self):
        """The deeds that are done."""
        story, _ = self._states[self._version]
        return story

    @property
    def tale(self):
        """For each deed the fuses that are blown behind it, in their order."""
        _, tale = self._states[self._version]
        return tale

    @property
    def version(self):
        """How many edits stand."""
        return self._version

    def put_on(self, lamp):
        """Puts the lamp on, and returns the new version."""
        return self._put("on", lamp)

    def put_off(self, lamp):
        """Puts the lamp off, and returns the new version."""
        return self._put("off", lamp)

    def pause(self):
        """Lets a pause begin, and returns the new version."""
        self._demand_room_for_deed()
        return self._add(("pause",))

    def blow(self, fuse):
        """Lets the fuse blow behind the last deed, and returns the new version."""
        self._demand_room()
        if not is_integer(fuse, 0, len(self._board[0]) - 1):
            raise NoFuse(fuse)
        if fuse not in self.strained():
            raise NotStrained(fuse)
        # There is a last deed: before the first one no lamp is on, and nothing is strained.
        tale = self.tale
        return self._edit(self.story, tale[:-1] + (tale[-1] + (fuse,),))

    def undo(self):
        """Takes the last edit that stands back, and returns the version then."""
        if self._version == 0:
            raise NothingToUndo()
        self._version = self._version - 1
        return self._version

    def redo(self):
        """Does the edit again that was taken back last, and returns the version then."""
        if self._version == len(self._states) - 1:
            raise NothingToRedo()
        self._version = self._version + 1
        return self._version

    def lit(self):
        """The ascending tuple of the lamps that are lit."""
        return lit(self._board, self.on, self.blown)

    def strained(self):
        """The ascending tuple of the strained fuses."""
        return strained(self._board, self.on, self.blown)

    def is_dark(self, lamp):
        """Whether the lamp is on, but not lit."""
        self._demand_lamp(lamp)
        return lamp in self.on and lamp not in self.lit()

    def twin(self):
        """A panel that goes on from here, without edits."""
        panel = Panel(self._board)
        panel._states = [self._states[self._version]]
        return panel

    def __len__(self):
        return len(self.story)

    def __eq__(self, other):
        return (
            isinstance(other, Panel)
            and self.board == other.board
            and self.story == other.story
            and self.tale == other.tale
        )

    def __str__(self):
        return str(story_text(self.story))

    def _put(self, word, lamp):
        """Adds the deed to the story, and returns the new version."""
        self._demand_room_for_deed()
        self._demand_lamp(lamp)
        return self._add((word, lamp))

    def _add(self, deed):
        """Adds the deed to the story, unless a pause is not over, and returns the new version."""
        hot = self.strained()
        if hot != () and is_pause(self.story[-1]):
            raise TooEarly(hot)
        return self._edit(self.story + (deed,), self.tale + ((),))

    def _edit(self, story, tale):
        """Goes on to this story and tale, and returns the new version."""
        # Behind the state of this version stand those that were taken back: they are forgotten.
        self._states = self._states[:self._version + 1] + [(story, tale)]
        self._version = self._version + 1
        return self._version

    def _demand_room(self):
        """Raises Full() if no more edits can stand."""
        if self._version >= self.LIMIT:
            raise Full()

    def _demand_room_for_deed(self):
        """Raises Full() if no more edits can stand, or the story takes no more deeds."""
        self._demand_room()
        if len(self.story) >= MAX_STORY:
            raise Full()

    def _demand_lamp(self, lamp):
        """Raises NoLamp(lamp) if lamp is no index of a lamp."""
        if not is_integer(lamp, 0, len(self._board[1]) - 1):
            raise NoLamp(lamp)
