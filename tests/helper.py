"""Calls written as the interface asks for them, and two ways to make them."""

from cellpad.notebook import answer_call, answers
from cellpad.pad import Pad
from cellpad.reader import Reader

HUGE = 10 ** 18

BEGIN = [9]
END = [10]
CANCEL = [11]


def row(numbers):
    return [len(numbers)] + list(numbers)


def new(after, text):
    return [0, after] + row(text)


def write(number, text):
    return [1, number] + row(text)


def move(number, after):
    return [2, number, after]


def drop(number):
    return [3, number]


def hide(number, mark):
    return [4, number, mark]


def split(number, place):
    return [5, number, place]


def join(number):
    return [6, number]


def swap(a, b):
    return [7, a, b]


def replace(x, y):
    return [8] + row(x) + row(y)


def ask(*calls):
    """The answers to these calls, of which each is one number."""
    given = answers([number for call in calls for number in call])
    if given[0::2] != [1] * len(calls):
        raise AssertionError(f"not one number a call: {given}")
    return given[1::2]


def last(*calls):
    return ask(*calls)[-1]


def say(pad, *calls):
    """Make these calls on the pad; the answers."""
    given = []
    for call in calls:
        reader = Reader(call)
        number = reader.take_whole()
        given.extend(answer_call(pad, number, reader.take_arguments(number)))
    return given


def pad_after(*calls):
    """A new pad on which these calls were made, of which none may be refused."""
    pad = Pad()
    given = say(pad, *calls)
    if any(answer < 0 for answer in given):
        raise AssertionError(f"refused: {given}")
    return pad


def numbers_in(pad):
    return [cell[0] for cell in pad.document]


def held(pad):
    """All that the pad holds, to be compared."""
    history = pad.history
    group = None if pad.group is None else list(pad.group)
    return (
        list(history.steps), list(history.documents), history.position, history.forgotten,
        pad.document, group, pad.next_number,
    )


def row_of_cells(count, text=()):
    """Calls that make so many cells, the first made first in the row."""
    return [new(after, text) for after in range(count)]


def numbers_used(count):
    """Calls on a new pad that use up so many numbers and leave no cell."""
    calls = []
    while count > 0:
        some = min(count, 10)
        calls += [BEGIN] + [new(0, [])] * some + [CANCEL]
        count -= some
    return calls
