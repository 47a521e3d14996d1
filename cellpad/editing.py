"""The nine calls that do an edit."""

from cellpad.cells import LONGEST_TEXT, MOST_CELLS, are_bytes, count_found, has_cell, index_of, number_of
from cellpad.cells import text_of, text_replaced
from cellpad.edits import JOIN, MAKE, REPLACE, SPLIT, do_edit
from cellpad.refusals import BAD_AFTER, BAD_MARK, BAD_PLACE, EMPTY_TEXT, GROUP_FULL, NONE_BEHIND, NOT_REFUSED
from cellpad.refusals import NO_BYTE, NO_CELL, NO_CHANGE, NUMBERS_USED_UP, TOO_LONG, TOO_MANY_CELLS

GREATEST_NUMBER = 99


def refuse_text(text):
    if not are_bytes(text):
        return NO_BYTE
    if len(text) > LONGEST_TEXT:
        return TOO_LONG
    return NOT_REFUSED


def refuse_cell(pad, number):
    if not has_cell(pad.document, number):
        return NO_CELL
    return NOT_REFUSED


def refuse_one_more(pad):
    """Why no cell with the next number can be made."""
    if len(pad.document) >= MOST_CELLS:
        return TOO_MANY_CELLS
    if pad.next_number > GREATEST_NUMBER:
        return NUMBERS_USED_UP
    return NOT_REFUSED


def refuse_new(pad, arguments):
    after = arguments[0]
    if after != 0 and not has_cell(pad.document, after):
        return BAD_AFTER
    refusal = refuse_text(arguments[1])
    if refusal != NOT_REFUSED:
        return refusal
    return refuse_one_more(pad)


def refuse_write(pad, arguments):
    refusal = refuse_cell(pad, arguments[0])
    if refusal != NOT_REFUSED:
        return refusal
    return refuse_text(arguments[1])


def refuse_move(pad, arguments):
    number = arguments[0]
    after = arguments[1]
    if not has_cell(pad.document, number):
        return NO_CELL
    if after == number:
        return BAD_AFTER
    if after != 0 and not has_cell(pad.document, after):
        return BAD_AFTER
    return NOT_REFUSED


def refuse_drop(pad, arguments):
    return refuse_cell(pad, arguments[0])


def refuse_hide(pad, arguments):
    if not has_cell(pad.document, arguments[0]):
        return NO_CELL
    if arguments[1] not in (0, 1):
        return BAD_MARK
    return NOT_REFUSED


def refuse_split(pad, arguments):
    index = index_of(pad.document, arguments[0])
    if index < 0:
        return NO_CELL
    if not 0 <= arguments[1] <= len(text_of(pad.document[index])):
        return BAD_PLACE
    return refuse_one_more(pad)


def refuse_join(pad, arguments):
    index = index_of(pad.document, arguments[0])
    if index < 0:
        return NO_CELL
    if index + 1 == len(pad.document):
        return NONE_BEHIND
    if len(text_of(pad.document[index])) + len(text_of(pad.document[index + 1])) > LONGEST_TEXT:
        return TOO_LONG
    return NOT_REFUSED


def refuse_swap(pad, arguments):
    if not has_cell(pad.document, arguments[0]):
        return NO_CELL
    return refuse_cell(pad, arguments[1])


def refuse_replace(pad, arguments):
    wanted = arguments[0]
    other = arguments[1]
    # No byte in either comes before too long in either, so the two can't be looked at one by one.
    if not are_bytes(wanted + other):
        return NO_BYTE
    if max(len(wanted), len(other)) > LONGEST_TEXT:
        return TOO_LONG
    if len(wanted) == 0:
        return EMPTY_TEXT
    if any([text_replaced(text_of(cell), wanted, other) is None for cell in pad.document]):
        return TOO_LONG
    return NOT_REFUSED


# Each stands at its call's number, which is its edit's kind too.
REFUSERS = (
    refuse_new, refuse_write, refuse_move, refuse_drop, refuse_hide, refuse_split, refuse_join, refuse_swap,
    refuse_replace,
)


def makes_cell(kind):
    return kind == MAKE or kind == SPLIT


def edit_of(pad, kind, arguments):
    if kind == MAKE:
        return (MAKE, pad.next_number, arguments[0], arguments[1])
    if kind == SPLIT:
        return (SPLIT, arguments[0], arguments[1], pad.next_number)
    return (kind,) + arguments


def answer_of(pad, edit):
    """What is answered for an edit that is about to be done."""
    if makes_cell(edit[0]):
        return pad.next_number
    if edit[0] == JOIN:
        return number_of(pad.document[index_of(pad.document, edit[1]) + 1])
    if edit[0] == REPLACE:
        return count_found(pad.document, edit[1])
    return 0


def answer_edit(pad, kind, arguments):
    if pad.group_is_full():
        return GROUP_FULL
    refusal = REFUSERS[kind](pad, arguments)
    if refusal != NOT_REFUSED:
        return refusal
    edit = edit_of(pad, kind, arguments)
    document = do_edit(pad.document, edit)
    if document == pad.document:
        return NO_CHANGE
    answer = answer_of(pad, edit)
    pad.take_edit(edit, document)
    if makes_cell(kind):
        pad.use_number()
    return answer
