"""The calls that go through the history, and the one that strikes a step out of it."""

from cellpad.refusals import GROUP_IS_OPEN, NOTHING_DONE, NOTHING_UNDONE, NOT_STRUCK, OUT_OF_RANGE


def answer_undo(pad, arguments):
    if pad.has_group():
        return GROUP_IS_OPEN
    if pad.history.position == 0:
        return NOTHING_DONE
    pad.go_to(pad.history.position - 1)
    return pad.history.position


def answer_redo(pad, arguments):
    if pad.has_group():
        return GROUP_IS_OPEN
    if pad.history.count_undone() == 0:
        return NOTHING_UNDONE
    pad.go_to(pad.history.position + 1)
    return pad.history.count_undone()


def answer_to(pad, arguments):
    position = arguments[0]
    if pad.has_group():
        return GROUP_IS_OPEN
    if not pad.history.has_position(position):
        return OUT_OF_RANGE
    before = pad.history.position
    pad.go_to(position)
    return abs(position - before)


def answer_strike(pad, arguments):
    index = arguments[0]
    if pad.has_group():
        return GROUP_IS_OPEN
    if not 0 <= index < pad.history.position:
        return OUT_OF_RANGE
    if not pad.strike_step(index):
        return NOT_STRUCK
    return 0


# In the order of their calls' numbers.
TRAVELS = (answer_undo, answer_redo, answer_to, answer_strike)


def answer_travel(pad, which, arguments):
    return TRAVELS[which](pad, arguments)
