"""Texts, cells and documents.

A text is a tuple of bytes, a cell is (number, mark, text), a document is a tuple of cells.
None of them can be changed, so a document that is kept stays what it was.
"""

MOST_CELLS = 12
LONGEST_TEXT = 200


def number_of(cell):
    return cell[0]


def mark_of(cell):
    return cell[1]


def text_of(cell):
    return cell[2]


def index_of(document, number):
    """The index of the cell of that number, -1 if there is none."""
    for index, cell in enumerate(document):
        if number_of(cell) == number:
            return index
    return -1


def has_cell(document, number):
    return index_of(document, number) >= 0


def with_cells(document, index, count, cells):
    """The document with these cells in the place of as many as count says, from the index on."""
    return document[:index] + cells + document[index + count:]


def put_behind(document, after, cell):
    """The document with the cell right behind the cell after, or first if after is 0."""
    index = 0
    if after != 0:
        index = index_of(document, after) + 1
    return with_cells(document, index, 0, (cell,))


def places_found(text, wanted):
    """The places where the wanted text, which is not empty, is found."""
    places = []
    place = 0
    while place + len(wanted) <= len(text):
        if text[place:place + len(wanted)] == wanted:
            places.append(place)
            place += len(wanted)
        else:
            place += 1
    return places


def count_found(document, wanted):
    return sum([len(places_found(text_of(cell), wanted)) for cell in document])


def length_replaced(text, wanted, other):
    """How long the text would be; told without making it, for it may be far longer than a cell's."""
    return len(text) + len(places_found(text, wanted)) * (len(other) - len(wanted))


def text_replaced(text, wanted, other):
    made = []
    behind = 0
    for place in places_found(text, wanted):
        made.extend(text[behind:place])
        made.extend(other)
        behind = place + len(wanted)
    made.extend(text[behind:])
    return tuple(made)
