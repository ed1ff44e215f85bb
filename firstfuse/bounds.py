"""The bounds of boards, stories and panels."""

MAX_FUSES = 20
MAX_LAMPS = 30
MAX_LOAD = 3000
MAX_DRAW = 100
MAX_STORY = 40
MAX_SMALL = 6
MAX_SMALL_LAMPS = 6
MAX_EDITS = 60
