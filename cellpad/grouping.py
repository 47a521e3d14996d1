"""The calls that begin, end and cancel a group."""

from cellpad.refusals import GROUP_IS_OPEN, NO_GROUP


def answer_begin(pad):
    if pad.has_group():
        return GROUP_IS_OPEN
    pad.begin_group()
    return 0


def answer_end(pad):
    if not pad.has_group():
        return NO_GROUP
    return pad.end_group()


def answer_cancel(pad):
    if not pad.has_group():
        return NO_GROUP
    return pad.cancel_group()


# In the order of their calls' numbers.
GROUPINGS = (answer_begin, answer_end, answer_cancel)


def answer_grouping(pad, which):
    return GROUPINGS[which](pad)
