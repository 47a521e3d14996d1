"""The program's interface."""

from cellpad.editing import answer_edit
from cellpad.grouping import answer_grouping
from cellpad.pad import Pad
from cellpad.reader import Reader
from cellpad.telling import answer_telling
from cellpad.travel import answer_travel

# The number of the first call of each sort; the calls that do an edit begin at 0.
FIRST_GROUPING = 9
FIRST_TRAVEL = 12
FIRST_TELLING = 16


def answer_call(pad, call, arguments):
    """The numbers that are answered to the call of that number."""
    if call < FIRST_GROUPING:
        return [answer_edit(pad, call, arguments)]
    if call < FIRST_TRAVEL:
        return [answer_grouping(pad, call - FIRST_GROUPING)]
    if call < FIRST_TELLING:
        return [answer_travel(pad, call - FIRST_TRAVEL, arguments)]
    return answer_telling(pad, call - FIRST_TELLING, arguments)


def answers(calls):
    """For each call, in order: how many numbers are answered, then these."""
    pad = Pad()
    reader = Reader(calls)
    given = []
    while not reader.is_behind():
        call = reader.take_whole()
        answer = answer_call(pad, call, reader.take_arguments(call))
        given.append(len(answer))
        given.extend(answer)
    return given
