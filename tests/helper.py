"""Calls written as the interface asks for them, and two ways to make them."""

import unittest

from cellpad.notebook import answer_call, answers
from cellpad.pad import Pad
from cellpad.reader import Reader

HUGE = 10 ** 18

BEGIN = [9]
END = [10]
CANCEL = [11]
UNDO = [12]
REDO = [13]
WHOLE = [16]
STATE = [19]


def row(numbers):
    return [len(numbers)] + list(numbers)


def new(after, text):
    return [0, after] + row(text)


def write(number, text):
    return [1, number] + row(text)


def move(number, after):
    return [2, number, after]


def drop(number):
    return [3, number]


def hide(number, mark):
    return [4, number, mark]


def split(number, place):
    return [5, number, place]


def join(number):
    return [6, number]


def swap(a, b):
    return [7, a, b]


def replace(x, y):
    return [8] + row(x) + row(y)


def to(position):
    return [14, position]


def strike(index):
    return [15, index]


def text(number):
    return [17, number]


def at(position):
    return [18, position]


def step(index):
    return [20, index]


def changed(p, q):
    return [21, p, q]


def blame(number):
    return [22, number]


def find(x):
    return [23] + row(x)


def flat(calls):
    return [number for call in calls for number in call]


def parted(given):
    """The numbers that were given back, as one list for each answer."""
    parts = []
    place = 0
    while place < len(given):
        count = given[place]
        parts.append(given[place + 1:place + 1 + count])
        if len(parts[-1]) != count or count < 1:
            raise AssertionError(f"an answer of {count} numbers at {place}: {given}")
        place += 1 + count
    return parts


def told(*calls):
    """The answers to these calls, each a list."""
    parts = parted(answers(flat(calls)))
    if len(parts) != len(calls):
        raise AssertionError(f"{len(parts)} answers to {len(calls)} calls")
    return parts


def last_told(*calls):
    return told(*calls)[-1]


def ask(*calls):
    """The answers to these calls, of which each is one number."""
    given = told(*calls)
    if any(len(answer) != 1 for answer in given):
        raise AssertionError(f"not one number a call: {given}")
    return flat(given)


def last(*calls):
    return ask(*calls)[-1]


def say(pad, *calls):
    """Make these calls on the pad; the answers."""
    given = []
    for call in calls:
        reader = Reader(call)
        number = reader.take_whole()
        given.extend(answer_call(pad, number, reader.take_arguments(number)))
    return given


def pad_after(*calls):
    """A new pad on which these calls were made, of which none may be refused."""
    pad = Pad()
    given = say(pad, *calls)
    if any(answer < 0 for answer in given):
        raise AssertionError(f"refused: {given}")
    return pad


def numbers_in(pad):
    return [cell[0] for cell in pad.document]


def held(pad):
    """All that the pad holds, to be compared."""
    history = pad.history
    group = None if pad.group is None else list(pad.group)
    return (
        list(history.steps), list(history.documents), history.position, history.forgotten,
        pad.document, group, pad.next_number,
    )


def row_of_cells(count, text=()):
    """Calls that make so many cells, the first made first in the row."""
    return [new(after, text) for after in range(count)]


def numbers_used(count):
    """Calls on a new pad that use up so many numbers and leave no cell."""
    calls = []
    while count > 0:
        some = min(count, 10)
        calls += [BEGIN] + [new(0, [])] * some + [CANCEL]
        count -= some
    return calls


def row_told(*cells):
    """A document of these (number, mark, text) as it is told."""
    return [len(cells)] + [number for cell in cells for number in [cell[0], cell[1]] + row(cell[2])]


# Calls that tell all that the interface can tell, but for single cells.
PROBES = [WHOLE, STATE] + [at(position) for position in range(21)] + [step(index) for index in range(20)]


class Refusing(unittest.TestCase):
    def refused(self, calls, *refusals):
        """Behind these calls each (call, refusal) is answered so, and everything stays as it was."""
        pad = pad_after(*calls)
        before = held(pad)
        for call, refusal in refusals:
            self.assertEqual(say(pad, call), [refusal], call)
            self.assertEqual(held(pad), before, call)
        all_refused = [call for call, refusal in refusals]
        given = told(*calls, *all_refused, *PROBES)[len(calls):]
        self.assertEqual(given[:len(refusals)], [[refusal] for call, refusal in refusals])
        self.assertEqual(given[len(refusals):], told(*calls, *PROBES)[len(calls):])
