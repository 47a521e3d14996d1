"""The calls that tell and change nothing. Each gives the list of the numbers that are answered."""

from cellpad.cells import are_bytes, has_cell, index_of, mark_of, number_of, places_found, text_of
from cellpad.refusals import EMPTY_TEXT, NO_BYTE, NO_CELL, OUT_OF_RANGE

# How a cell differs between the positions p and q.
NO_DIFFERENCE = 0
AT_P_ALONE = 1
AT_Q_ALONE = 2
OTHER_TEXT = 3
OTHER_MARK = 4
OTHER_TEXT_AND_MARK = 5


def tell_text(text):
    return [len(text)] + list(text)


def tell_document(document):
    told = [len(document)]
    for cell in document:
        told.extend([number_of(cell), mark_of(cell)])
        told.extend(tell_text(text_of(cell)))
    return told


def tell_edit(edit):
    told = []
    for part in edit:
        if isinstance(part, tuple):
            told.extend(tell_text(part))
        else:
            told.append(part)
    return told


def tell_pairs(pairs):
    told = [len(pairs)]
    for pair in pairs:
        told.extend(pair)
    return told


def text_in(document, number):
    """The text of the cell of that number, None if there is none."""
    index = index_of(document, number)
    if index < 0:
        return None
    return text_of(document[index])


def answer_whole(pad, arguments):
    return tell_document(pad.document)


def answer_text(pad, arguments):
    text = text_in(pad.document, arguments[0])
    if text is None:
        return [NO_CELL]
    return tell_text(text)


def answer_at(pad, arguments):
    if not pad.history.has_position(arguments[0]):
        return [OUT_OF_RANGE]
    return tell_document(pad.history.documents[arguments[0]])


def answer_state(pad, arguments):
    history = pad.history
    group = [0, 0]
    if pad.has_group():
        group = [1, len(pad.group)]
    return [history.position, len(history.steps)] + group + [pad.next_number, history.forgotten]


def answer_step(pad, arguments):
    steps = pad.history.steps
    if not 0 <= arguments[0] < len(steps):
        return [OUT_OF_RANGE]
    edits = steps[arguments[0]]
    told = [len(edits)]
    for edit in edits:
        told.extend(tell_edit(edit))
    return told


def difference(cell, document):
    """How the cell differs from the one of its number in the other document."""
    index = index_of(document, number_of(cell))
    if index < 0:
        return AT_P_ALONE
    other = document[index]
    if text_of(cell) == text_of(other):
        return NO_DIFFERENCE if mark_of(cell) == mark_of(other) else OTHER_MARK
    return OTHER_TEXT if mark_of(cell) == mark_of(other) else OTHER_TEXT_AND_MARK


def answer_changed(pad, arguments):
    history = pad.history
    if not all([history.has_position(position) for position in arguments]):
        return [OUT_OF_RANGE]
    at_p = history.documents[arguments[0]]
    at_q = history.documents[arguments[1]]
    pairs = []
    for cell in at_p:
        kind = difference(cell, at_q)
        if kind != NO_DIFFERENCE:
            pairs.append((number_of(cell), kind))
    for cell in at_q:
        if not has_cell(at_p, number_of(cell)):
            pairs.append((number_of(cell), AT_Q_ALONE))
    return tell_pairs(pairs)


def answer_blame(pad, arguments):
    number = arguments[0]
    if not has_cell(pad.document, number):
        return [NO_CELL]
    documents = pad.history.documents[:pad.history.position + 1]
    if pad.has_group():
        documents.append(pad.document)
    for index in range(len(documents) - 1, 0, -1):
        # Where the cell was not there yet, None is another text too.
        if text_in(documents[index], number) != text_in(documents[index - 1], number):
            return [index]
    return [0]


def answer_find(pad, arguments):
    wanted = arguments[0]
    if not are_bytes(wanted):
        return [NO_BYTE]
    if len(wanted) == 0:
        return [EMPTY_TEXT]
    pairs = []
    for cell in pad.document:
        for place in places_found(text_of(cell), wanted):
            pairs.append((number_of(cell), place))
    return tell_pairs(pairs)


# In the order of their calls' numbers.
TELLINGS = (
    answer_whole, answer_text, answer_at, answer_state, answer_step, answer_changed, answer_blame, answer_find,
)


def answer_telling(pad, which, arguments):
    return TELLINGS[which](pad, arguments)
