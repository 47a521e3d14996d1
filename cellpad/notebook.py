"""The program's interface."""

from cellpad.editing import answer_edit
from cellpad.edits import REPLACE
from cellpad.grouping import answer_begin, answer_cancel, answer_end
from cellpad.pad import Pad
from cellpad.reader import Reader

BEGIN = 9
END = 10


def answer_call(pad, call, arguments):
    """The numbers that are answered to the call of that number."""
    if call <= REPLACE:
        return [answer_edit(pad, call, arguments)]
    if call == BEGIN:
        return [answer_begin(pad)]
    if call == END:
        return [answer_end(pad)]
    return [answer_cancel(pad)]


def answers(calls):
    """For each call, in order: how many numbers are answered, then these."""
    pad = Pad()
    reader = Reader(calls)
    given = []
    while not reader.is_behind():
        call = reader.take_whole()
        answer = answer_call(pad, call, reader.take_arguments(call))
        given.append(len(answer))
        given.extend(answer)
    return given
