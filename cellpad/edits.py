"""The nine edits.

An edit is a tuple: its kind, then its arguments in the document's order, a text as a tuple.
Doing an edit gives the document that it makes, or None if it can't be done.
"""

from cellpad.cells import LONGEST_TEXT, MOST_CELLS, has_cell, index_of, mark_of, number_of, put_behind
from cellpad.cells import text_of, text_replaced, with_cells

# The kinds that are asked for by name.
MAKE = 0
SPLIT = 5
JOIN = 6
REPLACE = 8


def do_make(document, edit):
    number = edit[1]
    after = edit[2]
    if has_cell(document, number) or len(document) >= MOST_CELLS:
        return None
    if after != 0 and not has_cell(document, after):
        return None
    return put_behind(document, after, (number, 0, edit[3]))


def do_write(document, edit):
    index = index_of(document, edit[1])
    if index < 0:
        return None
    cell = document[index]
    return with_cells(document, index, 1, ((number_of(cell), mark_of(cell), edit[2]),))


def do_move(document, edit):
    number = edit[1]
    after = edit[2]
    index = index_of(document, number)
    if index < 0 or after == number:
        return None
    if after != 0 and not has_cell(document, after):
        return None
    others = with_cells(document, index, 1, ())
    return put_behind(others, after, document[index])


def do_drop(document, edit):
    index = index_of(document, edit[1])
    if index < 0:
        return None
    return with_cells(document, index, 1, ())


def do_hide(document, edit):
    index = index_of(document, edit[1])
    if index < 0:
        return None
    cell = document[index]
    return with_cells(document, index, 1, ((number_of(cell), edit[2], text_of(cell)),))


def do_split(document, edit):
    place = edit[2]
    new_number = edit[3]
    index = index_of(document, edit[1])
    if index < 0 or len(text_of(document[index])) < place:
        return None
    if has_cell(document, new_number) or len(document) >= MOST_CELLS:
        return None
    cell = document[index]
    text = text_of(cell)
    first = (number_of(cell), mark_of(cell), text[:place])
    second = (new_number, mark_of(cell), text[place:])
    return with_cells(document, index, 1, (first, second))


def do_join(document, edit):
    index = index_of(document, edit[1])
    if index < 0 or index + 1 == len(document):
        return None
    cell = document[index]
    text = text_of(cell) + text_of(document[index + 1])
    if len(text) > LONGEST_TEXT:
        return None
    return with_cells(document, index, 2, ((number_of(cell), mark_of(cell), text),))


def do_swap(document, edit):
    index_a = index_of(document, edit[1])
    index_b = index_of(document, edit[2])
    if index_a < 0 or index_b < 0:
        return None
    swapped = list(document)
    swapped[index_a] = document[index_b]
    swapped[index_b] = document[index_a]
    return tuple(swapped)


def do_replace(document, edit):
    made = []
    for cell in document:
        text = text_replaced(text_of(cell), edit[1], edit[2])
        if text is None:
            return None
        made.append((number_of(cell), mark_of(cell), text))
    return tuple(made)


# Each stands at its kind's number.
DOINGS = (do_make, do_write, do_move, do_drop, do_hide, do_split, do_join, do_swap, do_replace)


def do_edit(document, edit):
    return DOINGS[edit[0]](document, edit)


def do_edits(document, edits):
    """What the edits, one behind the other, make of the document, or None if they can't be done."""
    made = document
    for edit in edits:
        made = do_edit(made, edit)
        if made is None:
            return None
    return made
