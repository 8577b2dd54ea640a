"""The greatest numbers of steps, copies and edits."""

MAX_STEPS = 10
MAX_COPIES = 30
MAX_EDITS = 40
